/- RouteFinds: the walk. -/
import Derived.Test.YtheeicjoblkfnaaGreatDoorRf
import Derived.Test.YtheeicjoblkfnaaGreatDoorRk
import Derived.Test.YtheeicjoblkfnaaGreatDoorSb
import Derived.Deep.RegionWith
namespace Go.Proofs.YtheeicjoblkfnaaGreatDoor.Rg
set_option linter.unusedVariables false
set_option linter.unusedSimpArgs false
open Go.RowKit Lib0 Kb Rp Rw Rs Ls Ms Ts Rd Rf
theorem infoS : (Tryz.prog.info? 9).map (fun i => (i.zero, i.size, i.bytes)) = some (some (.string ⟨#[]⟩), 1, 16) := by kernel_rfl
theorem lies_b {w x : World} {v : Value} {z : List ByteArray} (h : Sg.Lies w v z) (hb : Below w.heap.size w x) : Sg.Lies x v z := by
  obtain ⟨o, cap, e, h1, hc⟩ := h
  refine ⟨o, cap, e, h1, fun i hi => ?_⟩
  obtain ⟨a, ea, c0, c1⟩ := hc i hi
  exact ⟨a, ea, (hb.cell (World.block_lt_of_cell? w _ c0)).trans c0, c1⟩
theorem own_base {w : World} {base base' e n : Nat} {v : Value} {xs : List Value} (h : w.ownsRow base e 1 v n xs) (hb : base' ≤ base) : w.ownsRow base' e 1 v n xs := by
  obtain ⟨h1, h2 | ⟨g, cap, cur, e, h3, h4⟩⟩ := h
  · exact ⟨h1, .inl h2⟩
  · exact ⟨h1, .inr ⟨g, cap, cur, e, by omega, h4⟩⟩
theorem mem_snoc (l : List K) (p : K) (k : Nat) (h : k < l.length) : decide (p ∈ l.take (k + 1)) = (decide (p ∈ l.take k) || decide (l[k] = p)) := by
  rw [List.take_succ_eq_append_getElem h]
  simp only [List.mem_append, List.mem_singleton]
  by_cases h1 : p ∈ l.take k
  · simp [h1]
  · by_cases h2 : l[k] = p
    · simp [h2]
    · have : ¬ p = l[k] := fun e => h2 e.symm
      simp [h1, h2, this]
set_option maxRecDepth 100000 in
set_option maxHeartbeats 6400000 in
theorem walk (v0 : Value) (z0 : List ByteArray) (v1 : Value) (z1 : Nat → Bool) (n1 : Nat) (v2 : Value) (z2 : List ByteArray) (w : World) (w0 : Sg.Lies w v0 z0) (w1 : Sb.Lies w v1 z1 n1) (w2 : Sg.Lies w v2 z2) :
    Calls Tryz.prog 6 #[v0, v1, v2] w fun e w' => e = .returned (.bool true) ∧ Below w.heap.size w w' := by
  obtain ⟨i0, hi, hz0, hz1, hz2⟩ := info_parts infoS
  have pk := fun w => Rk.known_any w
  have LA0 : Hid (∀ x, Below w.heap.size w x → Sg.Lies x v0 z0) := fun x hx => lies_b w0 hx
  have LA1 : Hid (∀ x, Below w.heap.size w x → Sb.Lies x v1 z1 n1) := fun x hx => Sb.lies_below w1 hx
  have LA2 : Hid (∀ x, Below w.heap.size w x → Sg.Lies x v2 z2) := fun x hx => lies_b w2 hx
  obtain ⟨o0, cap0, e0, hn0, -⟩ := w0
  obtain ⟨o1, cap1, e1, hn1⟩ : ∃ o cap, v1 = .slice o n1 cap ∧ n1 ≤ 9223372036854775807 := by
    rcases w1 with ⟨h, h'⟩ | ⟨a, cap, h, h1, h2, _⟩
    · exact ⟨none, 0, by rw [h, h'], by omega⟩
    · exact ⟨some a, cap, h, by unfold maxLen at h2; omega⟩
  obtain ⟨o2, cap2, e2, hn2, -⟩ := w2
  obtain ⟨N0, HN0⟩ : ∃ N, Hid (z0.length = N) := ⟨_, rfl⟩
  obtain ⟨N2, HN2⟩ : ∃ N, Hid (z2.length = N) := ⟨_, rfl⟩
  rw [HN0.out] at e0 hn0
  rw [HN2.out] at e2 hn2
  subst e0 e1 e2
  have H0 : Hid (N0 ≤ 9223372036854775807) := hn0
  have H2 : Hid (N2 ≤ 9223372036854775807) := hn2
  have H1n : Hid (n1 ≤ 9223372036854775807) := hn1
  clear hn0 hn2 hn1 w1
  go_enter Tryz.func6, Tryz.ntmps6
  go_wp2_with fail
  refine (pk _).mono ?_
  rintro e y0 ⟨rfl, b0⟩
  clear pk
  go_wp2_with fail
  refine (new_any _).mono ?_
  rintro e y1 ⟨rfl, rfl⟩
  have hT := new_tri y0
  have b1 : Below w.heap.size w (y0.alloc (.cells #[.pointer none, .int .i64 0] tR)) := keepB b0 (below_one _ _)
  obtain ⟨B, HB⟩ : ∃ B, Hid (y0.heap.size = B) := ⟨_, rfl⟩
  have HBw : Hid (w.heap.size ≤ B) := by show _ ≤ _; rw [← HB.out]; exact b0.size
  rw [HB.out] at hT ⊢
  generalize y0.alloc (.cells #[.pointer none, .int .i64 0] tR) = y1 at *
  have hb1 : Hid (w.heap.size ≤ y1.heap.size) := b1.size
  clear b0 HB y0
  go_wp2_with fail
  obtain ⟨q0, hq0⟩ : ∃ q0 : Value, q0 = .slice none 0 0 := ⟨_, rfl⟩
  have hR0 : Row y1 y1.heap.size B [] q0 [] := by rw [hq0]; exact Row.new hT
  have hH0 : Hold [] [] := ⟨fun k => rfl, rfl, List.Pairwise.nil⟩
  rw [← hq0]
  clear hq0 hT
  go_loopw [9, 10] (fun lv iv wr => ∃ (k : Nat) (l : List K) (L : LT), iv = .int .i64 (k : Int) ∧ k ≤ N0 ∧ k ≤ 200 ∧ l.length ≤ k ∧ Row wr y1.heap.size B L lv l ∧ Hold L l ∧ Below w.heap.size w wr ∧ y1.heap.size ≤ wr.heap.size) (fun _ iv _ => 201 - (intOf iv).toNat)
  case atStart => exact ⟨0, [], [], rfl, Nat.zero_le _, by omega, Nat.le_refl _, hR0, hH0, b1, Nat.le_refl _⟩
  case round =>
    obtain ⟨k, l, L, rfl, hk, hk2, hlk, hR, hH, hb, hy⟩ := hrel
    by_cases hc : k < N0 ∧ k < 200
    · as_aux_lemma =>
        obtain ⟨hc1, hc2⟩ := hc
        have p0 : (k : Int) < (N0 : Int) := by omega
        have p1 : (0 : Int) ≤ (k : Int) := by omega
        have p2 : (k : Int) < 200 := by omega
        have p3 : (k : Int) + 1 ≤ 9223372036854775807 := by omega
        obtain ⟨o', c', e', -, hcell⟩ := LA0.out wr hb
        rw [HN0.out] at e'
        cases e'
        obtain ⟨a, rfl, c0, c1⟩ := hcell k (by rw [HN0.out]; exact hc1)
        obtain ⟨x, hx⟩ : ∃ x, z0[k]'(by rw [HN0.out]; exact hc1) = x := ⟨_, rfl⟩
        rw [hx] at c0 c1
        have pd := digits_any x
        clear hx hcell
        have HC1 : Hid (k < N0 ∧ k < 200) := ⟨hc1, hc2⟩
        go_wp2_with fail
        refine (pd _ c1).mono ?_
        rintro e x1 ⟨rfl, k1⟩
        obtain ⟨p, HP⟩ : ∃ p, Hid (dgL x.data.toList = p) := ⟨_, rfl⟩
        have ok : Hid (okK p = true) := by show _ = _; rw [← HP.out]; exact dgL_ok _
        rw [HP.out]
        replace hR := hR.below k1
        replace hb := keepB hb k1
        have hy1 := Nat.le_trans hy k1.size
        clear k1 c0 c1 HP pd hy
        obtain ⟨ol, cl, rfl, hcl⟩ := hR.cell
        obtain ⟨M, HM⟩ : ∃ M, Hid (l.length = M) := ⟨_, rfl⟩
        have HCL : Hid (∀ i (hi : i < l.length), ∃ g, ol = some ⟨g, 0, none⟩ ∧ x1.cell? ⟨g, i, none⟩ = some (sv l[i])) := hcl
        rw [HM.out] at hlk ⊢
        have HM2 : Hid (M ≤ 200) := by show _ ≤ _; omega
        have HLK : Hid (M ≤ k) := hlk
        have HR : Hid (Row x1 y1.heap.size B L (.slice ol M cl) l) := by show Row _ _ _ _ _ _; rw [← HM.out]; exact hR
        clear hcl hR hlk
        go_wp2_with fail
        go_loopw [12, 13] (fun tv jv wr => ∃ j : Nat, jv = .int .i64 (j : Int) ∧ j ≤ M ∧ tv = .bool (decide (p ∈ l.take j)) ∧ wr = x1) (fun _ jv _ => M + 1 - (intOf jv).toNat)
        case atStart => exact ⟨0, rfl, Nat.zero_le _, by simp, rfl⟩
        case round =>
          obtain ⟨j, rfl, hj, rfl, rfl⟩ := hrel
          by_cases hcj : j < M
          · have r0 : (j : Int) < (M : Int) := by omega
            have r1 : (0 : Int) ≤ (j : Int) := by omega
            have r3 : (j : Int) + 1 ≤ 9223372036854775807 := by have := HM2.out; omega
            have hjl : j < l.length := by rw [HM.out]; exact hcj
            obtain ⟨g, rfl, cg⟩ := HCL.out j hjl
            have HX : Hid (decide (p ∈ l.take (j + 1)) = (decide (p ∈ l.take j) || decide (l[j]'hjl = p))) := mem_snoc l p j hjl
            obtain ⟨u, hu⟩ : ∃ u, l[j]'hjl = u := ⟨_, rfl⟩
            rw [hu] at cg HX
            clear hu hjl
            have HCJ : Hid (j < M) := hcj
            cases ht : decide (p ∈ l.take j) with
            | true =>
              rw [ht] at HX
              clear ht hcj hj
              go_wp2_with fail
              exact ⟨⟨j + 1, by simp, HCJ.out, by rw [HX.out]; rfl, trivial⟩, by simp only [intOf]; have := HCJ.out; omega⟩
            | false =>
              rw [ht] at HX
              clear ht hcj hj
              go_wp2_with fail
              refine ⟨⟨j + 1, by simp, HCJ.out, ?_, trivial⟩, by simp only [intOf]; have := HCJ.out; omega⟩
              rw [HX.out]
              simp only [Bool.false_or, Value.bool.injEq]
              by_cases hup : u = p
              · simp [hup]
              · simp [hup]
          · have r0 : ¬ (j : Int) < (M : Int) := by omega
            have hjl : l.take j = l := List.take_of_length_le (by rw [HM.out]; omega)
            rw [hjl]
            obtain ⟨X, hT, hX⟩ := HR.out.tri
            have hat := hH.at p
            have pp := put_any wr X B L (sB p) (atB p) hT (by show p.length ≤ maxLen; have := ok.out; simp only [okK, Bool.and_eq_true, decide_eq_true_eq] at this; unfold maxLen; omega) (by have := hH.len; have := HM.out; have := HM2.out; omega)
            have pl : p.length ≤ 19 := by have := ok.out; simp only [okK, Bool.and_eq_true, decide_eq_true_eq] at this; omega
            have pl2 : ¬ 9223372036854775807 < 3 + p.length := by omega
            rw [show (sB p).data.toList = p from rfl] at pp
            have HH : Hid (Hold L l) := hH
            have HXX : Hid (∀ g, (Value.slice ol M cl).ownBlock = some g → g ∈ X) := hX
            clear hjl hH hX hj
            cases hp : decide (p ∈ l) with
            | true =>
              rw [hp] at hat
              have e5 : putE L p = false := by rw [putE, hat, ok.out]; rfl
              simp only [putL, e5, if_neg (Bool.false_ne_true)] at pp
              clear hp hat e5
              go_wp2_with fail
              refine pp.mono ?_
              rintro e x2 ⟨rfl, hT2, k2⟩
              have hR2 := HR.out.put HXX.out hT k2 hT2
              have hb2 := Fr.behind hb k2 (by simp; exact HBw.out)
              have hy2 := Nat.le_trans hy1 k2.size
              clear pp
              go_wp2_with fail
              exact ⟨⟨k + 1, l, L, by simp, HC1.out.1, HC1.out.2, by have := HM.out; have := HLK.out; omega, hR2, HH.out, hb2, hy2⟩, by simp only [intOf]; have := HC1.out.2; omega⟩
            | false =>
              rw [hp] at hat
              have e5 : putE L p = true := by rw [putE, hat, ok.out]; rfl
              simp only [putL, e5, if_true] at pp
              have HH2 : Hid (Hold (ins L p (atB p)) (l ++ [p])) := HH.out.ins hT.srt (by simpa using hp)
              clear hp hat e5
              go_wp2_with fail
              refine pp.mono ?_
              rintro e x2 ⟨rfl, hT2, k2⟩
              have hR2 := HR.out.put HXX.out hT k2 hT2
              have hb2 := Fr.behind hb k2 (by simp; exact HBw.out)
              have hy2 := Nat.le_trans hy1 k2.size
              have hrow : x2.ownsRow y1.heap.size tS 1 (.slice ol M cl) M (l.map sv) := by have := hR2.row; rw [HM.out] at this; exact this
              have hM3 : M ≤ 200 := HM2.out
              clear pp
              go_wp2_with (at_builtin; refine wpList_append_lies _ rfl _ _ _ rfl y1.heap.size 9 i0 _ 1 16 Tryz.underlying73 hi hz0 hz1 hz2 rfl (by omega) _ M _ rfl (hrow.alloc _) ⟨x2.heap.size, 0, none⟩ 1 1 _ rfl (by rfl) (World.news_of_block (heap_alloc_new x2 _)) (by simp [Value.oneCell']) (by omega) (by unfold maxLen; omega) (by omega) (by first | omega | (simp <;> omega)) (x2.heap.size + 1) (by simp) ?_; intro gg cap w1 hown1 hgrow hat hlt1)
              have hM := HM.out
              refine ⟨⟨k + 1, l ++ [p], ins L p (atB p), by simp, HC1.out.1, HC1.out.2, by rw [List.length_append]; have := HLK.out; simp; omega, ?_, HH2.out, below_app0 hb2 hb2.size (own_base hrow hb1.out) hgrow, Nat.le_trans hy2 (by have := hgrow.size; simp at this; omega)⟩, by simp only [intOf]; have := HC1.out.2; omega⟩
              subst hM
              exact Row.app hR2 hown1 hgrow hat hlt1
    · rcases (by omega : ¬ k < N0 ∨ (k < N0 ∧ ¬ k < 200)) with h | ⟨h, h'⟩
      · have p0 : ¬ (k : Int) < (N0 : Int) := by omega
        clear h
        as_aux_lemma =>
          obtain ⟨ol, cl, rfl, hcl⟩ := hR.cell
          obtain ⟨M, HM⟩ : ∃ M, Hid (l.length = M) := ⟨_, rfl⟩
          rw [HM.out] at hlk ⊢
          have HM2 : Hid (M ≤ 200) := by show _ ≤ _; omega
          have HR : Hid (Row wr y1.heap.size B L (.slice ol M cl) l) := by show Row _ _ _ _ _ _; rw [← HM.out]; exact hR
          obtain ⟨w2, hw2⟩ : ∃ w2, wr = w2 := ⟨_, rfl⟩
          have HCL : Hid (∀ x, Fr [B] w2 x → ∀ i (hi : i < l.length), ∃ g, ol = some ⟨g, 0, none⟩ ∧ x.cell? ⟨g, i, none⟩ = some (sv l[i])) := fun x hx => by
            have := HR.out
            rw [hw2] at this
            exact this.cellFr hx
          have HW2 : Hid (w.heap.size ≤ w2.heap.size) := by show _ ≤ _; rw [← hw2]; exact hb.size
          have HRN : Hid (∃ X, Tri w2 X B L) := by obtain ⟨X, h, _⟩ := hR.tri; rw [hw2] at h; exact ⟨X, h⟩
          have hkeys : Hid (∀ p ∈ l, okK p = true) := fun p hp => by
            obtain ⟨X, h, _⟩ := hR.tri
            exact h.keys _ (look_mem (k := p) (v := atB p) (by rw [hH.lk, if_pos hp]))
          have hb2 : Below w.heap.size w w2 := by rw [← hw2]; exact hb
          have HH0 : Hid (Hold L l) := hH
          clear hcl hR hlk hb hy hH hc
          rw [hw2]
          clear hw2 HR wr
          go_wp2_with fail
          obtain ⟨q0, hq0⟩ : ∃ q0 : Value, q0 = .slice none 0 0 := ⟨_, rfl⟩
          have hR0 : Row w2 w2.heap.size B L q0 [] := by obtain ⟨X, h⟩ := HRN.out; rw [hq0]; exact Row.new h
          rw [← hq0]
          clear hq0
          go_loopw [15, 16, 17, 18] (fun rv iv _ _ wr => ∃ (i : Nat) (rest : List K) (L2 : LT), iv = .int .i64 (i : Int) ∧ i ≤ M ∧ rest.length ≤ i ∧ Row wr w2.heap.size B L2 rv rest ∧ Hold L2 (rest ++ l.drop i) ∧ Fr [B] w2 wr ∧ Below w.heap.size w wr) (fun _ iv _ _ _ => M + 1 - (intOf iv).toNat)
          case atStart => exact ⟨0, [], L, rfl, Nat.zero_le _, Nat.le_refl _, hR0, by simpa using HH0.out, Fr.refl _ _, hb2⟩
          case round =>
            obtain ⟨i, rest, L2, rfl, hiM, hri, hR, hH, hfr, hb⟩ := hrel
            obtain ⟨orr, cr, rfl, hcr⟩ := hR.cell
            obtain ⟨R, HRL⟩ : ∃ R, Hid (rest.length = R) := ⟨_, rfl⟩
            rw [HRL.out] at hri hR ⊢
            have HRI : Hid (R ≤ i) := hri
            by_cases hci : i < M
            · have p0 : (i : Int) < (M : Int) := by omega
              have p1 : (0 : Int) ≤ (i : Int) := by omega
              have p3 : (i : Int) + 1 ≤ 9223372036854775807 := by have := HM2.out; omega
              have hil : i < l.length := by rw [HM.out]; exact hci
              obtain ⟨g, rfl, cg⟩ := HCL.out wr hfr i hil
              have HSM : Hid (rest ++ l.drop i = (rest ++ [l[i]'hil]) ++ l.drop (i + 1)) := hold_move _ _ _ hil
              have HSP : Hid (rest ++ l.drop i = rest ++ (l[i]'hil) :: l.drop (i + 1)) := hold_split _ _ _ hil
              have HU : Hid ((l[i]'hil).length ≤ 19) := by
                have := hkeys.out _ (List.getElem_mem hil)
                simp only [okK, Bool.and_eq_true, decide_eq_true_eq] at this
                exact this.2
              obtain ⟨u, hu⟩ : ∃ u, l[i]'hil = u := ⟨_, rfl⟩
              have HU0 : Hid (∀ h : i < l.length, l[i]'h = u) := fun _ => hu
              rw [hu] at cg HSM HSP HU
              obtain ⟨X, hT, hX⟩ := hR.tri
              have HCI : Hid (i < M) := hci
              have HLN : Hid ((rest ++ l.drop i).length < 4611686018427387904) := by
                show _ < _
                rw [List.length_append, List.length_drop, HRL.out, HM.out]
                have := HRI.out; have := HM2.out; omega
              have HLN2 : Hid ((rest ++ l.drop (i + 1)).length < 4611686018427387904) := by
                show _ < _
                rw [List.length_append, List.length_drop, HRL.out, HM.out]
                have := HRI.out; have := HM2.out; omega
              clear hu hil hri hiM hci
              have hL1 := LA1.out wr hb
              by_cases hg : i < n1
              · have p4 : ¬ (n1 : Int) ≤ (i : Int) := by omega
                have p5 : (i : Int) < (n1 : Int) := by omega
                rcases hL1 with ⟨he, hz⟩ | ⟨a1, cap', he, hh1, hh2, hcl⟩
                · omega
                · cases he
                  have cb := hcl i hg
                  cases hzi : z1 i with
                  | true =>
                    rw [hzi] at cb
                    clear hzi hh1 hh2 hg
                    have dd := drop_any wr X B L2 (sB u) hT (by show u.length ≤ maxLen; have := HU.out; unfold maxLen; omega) (by have := hH.len; have := HLN.out; omega)
                    rw [show (sB u).data.toList = u from rfl] at dd
                    have hat : isAt L2 u = true := by rw [hH.at]; simp [HSP.out]
                    have HH3 : Hid (Hold (del L2 u) (rest ++ l.drop (i + 1))) := by
                      have := hH
                      rw [HSP.out] at this
                      exact this.del hT.srt
                    have HND : Hid (u ∉ rest ++ l.drop (i + 1)) := by
                      have := hH.nd
                      rw [HSP.out] at this
                      intro hm
                      rw [List.nodup_append] at this
                      have h2 := List.nodup_cons.1 this.2.1
                      rcases List.mem_append.1 hm with hm | hm
                      · exact this.2.2 u hm u (by simp) rfl
                      · exact h2.1 hm
                    simp only [hat, if_true] at dd
                    have HXX : Hid (∀ g, (Value.slice orr R cr).ownBlock = some g → g ∈ X) := hX
                    have HR2 : Hid (Row wr w2.heap.size B L2 (.slice orr R cr) rest) := hR
                    have HFR : Hid (Fr [B] w2 wr) := hfr
                    clear hat hX hH hR hfr hcl hcr
                    go_wp2_with fail
                    refine dd.mono ?_
                    rintro e x3 ⟨rfl, hT3, k3⟩
                    clear dd
                    have hR3 := HR2.out.put HXX.out hT k3 hT3
                    have hb3 := Fr.behind hb k3 (by simp; exact HBw.out)
                    have hfr3 := HFR.out.trans k3
                    obtain ⟨g', eg, cg'⟩ := HCL.out x3 hfr3 i (by rw [HM.out]; exact HCI.out)
                    cases eg
                    rw [HU0.out _] at cg'
                    have dd := drop_any x3 X B (del L2 u) (sB u) hT3 (by show u.length ≤ maxLen; have := HU.out; unfold maxLen; omega) (by have := HH3.out.len; have := HLN2.out; omega)
                    rw [show (sB u).data.toList = u from rfl] at dd
                    have hat : isAt (del L2 u) u = false := by rw [HH3.out.at]; simpa using HND.out
                    simp only [hat, if_neg (Bool.false_ne_true)] at dd
                    clear hat cg
                    go_wp2_with fail
                    refine dd.mono ?_
                    rintro e x4 ⟨rfl, hT4, k4⟩
                    clear dd
                    have hR4 := hR3.put HXX.out hT3 k4 hT4
                    have hb4 := Fr.behind hb3 k4 (by simp; exact HBw.out)
                    have hfr4 := hfr3.trans k4
                    clear cg'
                    go_wp2_with fail
                    exact ⟨⟨i + 1, rest, del L2 u, by simp, HCI.out, by have := HRI.out; have := HRL.out; omega, hR4, HH3.out, hfr4, hb4⟩, by simp only [intOf]; have := HCI.out; omega⟩
                  | false =>
                    rw [hzi] at cb
                    clear hzi hh1 hh2 hg
                    have hrow : wr.ownsRow w2.heap.size tS 1 (.slice orr R cr) R (rest.map sv) := by have := hR.row; rw [HRL.out] at this; exact this
                    have hR3 : R ≤ 200 := by have := HRI.out; have := HM2.out; have := HCI.out; omega
                    have HH3 : Hid (Hold L2 ((rest ++ [u]) ++ l.drop (i + 1))) := by
                      have := hH
                      rw [HSM.out] at this
                      exact this
                    have HR2 : Hid (Row wr w2.heap.size B L2 (.slice orr R cr) rest) := hR
                    have HFR : Hid (Fr [B] w2 wr) := hfr
                    have hws : w2.heap.size ≤ wr.heap.size := hfr.size
                    clear hH hR hX hfr hcl hcr
                    go_wp2_with (at_builtin; refine wpList_append_lies _ rfl _ _ _ rfl w2.heap.size 9 i0 _ 1 16 Tryz.underlying73 hi hz0 hz1 hz2 rfl (by omega) _ R _ rfl (hrow.alloc _) ⟨wr.heap.size, 0, none⟩ 1 1 _ rfl (by rfl) (World.news_of_block (heap_alloc_new wr _)) (by simp [Value.oneCell']) (by omega) (by unfold maxLen; omega) (by omega) (by first | omega | (simp <;> omega)) (wr.heap.size + 1) (by simp) ?_; intro gg cap w1 hown1 hgrow hat hlt1)
                    have hRl := HRL.out
                    refine ⟨⟨i + 1, rest ++ [u], L2, by simp, HCI.out, by rw [List.length_append]; have := HRI.out; simp; omega, ?_, HH3.out, Fr.grown (HFR.out.alloc _) hgrow (fun g e => .inr (own_from hrow g e)), below_app0 hb hb.size (own_base hrow HW2.out) hgrow⟩, by simp only [intOf]; have := HCI.out; omega⟩
                    subst hRl
                    exact Row.app HR2.out hown1 hgrow hat hlt1
              · have p4 : (n1 : Int) ≤ (i : Int) := by omega
                have hcl : True := trivial
                clear hL1 hg
                have hrow : wr.ownsRow w2.heap.size tS 1 (.slice orr R cr) R (rest.map sv) := by have := hR.row; rw [HRL.out] at this; exact this
                have hR3 : R ≤ 200 := by have := HRI.out; have := HM2.out; have := HCI.out; omega
                have HH3 : Hid (Hold L2 ((rest ++ [u]) ++ l.drop (i + 1))) := by
                  have := hH
                  rw [HSM.out] at this
                  exact this
                have HR2 : Hid (Row wr w2.heap.size B L2 (.slice orr R cr) rest) := hR
                have HFR : Hid (Fr [B] w2 wr) := hfr
                have hws : w2.heap.size ≤ wr.heap.size := hfr.size
                clear hH hR hX hfr hcl hcr
                go_wp2_with (at_builtin; refine wpList_append_lies _ rfl _ _ _ rfl w2.heap.size 9 i0 _ 1 16 Tryz.underlying73 hi hz0 hz1 hz2 rfl (by omega) _ R _ rfl (hrow.alloc _) ⟨wr.heap.size, 0, none⟩ 1 1 _ rfl (by rfl) (World.news_of_block (heap_alloc_new wr _)) (by simp [Value.oneCell']) (by omega) (by unfold maxLen; omega) (by omega) (by first | omega | (simp <;> omega)) (wr.heap.size + 1) (by simp) ?_; intro gg cap w1 hown1 hgrow hat hlt1)
                have hRl := HRL.out
                refine ⟨⟨i + 1, rest ++ [u], L2, by simp, HCI.out, by rw [List.length_append]; have := HRI.out; simp; omega, ?_, HH3.out, Fr.grown (HFR.out.alloc _) hgrow (fun g e => .inr (own_from hrow g e)), below_app0 hb hb.size (own_base hrow HW2.out) hgrow⟩, by simp only [intOf]; have := HCI.out; omega⟩
                subst hRl
                exact Row.app HR2.out hown1 hgrow hat hlt1
            · have p0 : ¬ (i : Int) < (M : Int) := by omega
              have hH2 : Hold L2 rest := by
                have := hH
                rw [List.drop_of_length_le (by rw [HM.out]; omega), List.append_nil] at this
                exact this
              obtain ⟨X, hT, hX⟩ := hR.tri
              have pl := len_any wr X B L2 hT
              have q7 : (L2.length : Int) = (R : Int) := by rw [hH2.len, HRL.out]
              rw [q7] at pl
              have HH3 : Hid (Hold L2 rest) := hH2
              have HR3 : Hid (Row wr w2.heap.size B L2 (.slice orr R cr) rest) := hR
              have HRM : Hid (R ≤ 200) := by show _ ≤ _; have := HM2.out; omega
              clear hH hH2 hT hX q7 hcr hR hri hiM hci hfr
              go_wp2_with fail
              refine pl.mono ?_
              rintro e x3 ⟨rfl, hx3⟩
              rw [hx3]
              clear hx3 x3 pl
              go_wp2_with fail
              go_loopw [19] (fun iv wr => ∃ i : Nat, iv = .int .i64 (i : Int) ∧ i ≤ N2 ∧ i ≤ 60 ∧ Row wr w2.heap.size B L2 (.slice orr R cr) rest ∧ Below w.heap.size w wr) (fun iv _ => 61 - (intOf iv).toNat)
              case atStart => exact ⟨0, rfl, Nat.zero_le _, by omega, HR3.out, hb⟩
              case round =>
                obtain ⟨i, rfl, hi2, hi60, hR4, hb⟩ := hrel
                by_cases hci : i < N2 ∧ i < 60
                · obtain ⟨hc1, hc2⟩ := hci
                  have p0 : (i : Int) < (N2 : Int) := by omega
                  have p1 : (0 : Int) ≤ (i : Int) := by omega
                  have p2 : (i : Int) < 60 := by omega
                  have p3 : (i : Int) + 1 ≤ 9223372036854775807 := by omega
                  obtain ⟨o', c', e', -, hcell⟩ := LA2.out wr hb
                  rw [HN2.out] at e'
                  cases e'
                  obtain ⟨a, rfl, c0, c1⟩ := hcell i (by rw [HN2.out]; exact hc1)
                  obtain ⟨x, hx⟩ : ∃ x, z2[i]'(by rw [HN2.out]; exact hc1) = x := ⟨_, rfl⟩
                  rw [hx] at c0 c1
                  clear hx hcell
                  have HCI : Hid (i < N2 ∧ i < 60) := ⟨hc1, hc2⟩
                  have HR4 : Hid (Row wr w2.heap.size B L2 (.slice orr R cr) rest) := hR4
                  have C1 : Hid (x.size ≤ maxLen) := c1
                  have xI : (x.size : Int) ≤ 9223372036854775807 := by unfold maxLen at c1; omega
                  clear hR4 c1 hc1 hc2 hi2 hi60
                  go_wp2_with fail
                  clear c0
                  go_loopw [21] (fun nv wr4 => ∃ n : Nat, nv = .int .i64 (n : Int) ∧ n ≤ x.size ∧ (∀ j (h : j < x.size), j < n → isD (x[j]'h) = true) ∧ wr4 = wr) (fun nv _ => x.size + 1 - (intOf nv).toNat)
                  case atStart => exact ⟨0, rfl, Nat.zero_le _, fun j h hj => absurd hj (Nat.not_lt_zero _), rfl⟩
                  case round =>
                    obtain ⟨n, rfl, hn, hall, hwr4⟩ := hrel
                    subst hwr4
                    have HAL : Hid (∀ j (h : j < x.size), j < n → isD (x[j]'h) = true) := hall
                    clear hall
                    by_cases hcn : n < x.size
                    · have s0 : (n : Int) < (x.size : Int) := by omega
                      have s1 : (0 : Int) ≤ (n : Int) := by omega
                      have s2 : (n : Int) + 1 ≤ 9223372036854775807 := by omega
                      have HCN : Hid (n < x.size) := hcn
                      by_cases hd1 : 48 ≤ (x[n]'hcn).toNat
                      · have t1 : (48 : Int) ≤ ((x[n]'hcn).toNat : Int) := by omega
                        by_cases hd2 : (x[n]'hcn).toNat ≤ 57
                        · have t2 : ((x[n]'hcn).toNat : Int) ≤ 57 := by omega
                          have HX : Hid (∀ j (h : j < x.size), j < n + 1 → isD (x[j]'h) = true) := fun j h hj => by
                            by_cases hjn : j < n
                            · exact HAL.out j h hjn
                            · have : j = n := by omega
                              subst this
                              rw [isD_iff]; exact ⟨hd1, hd2⟩
                          clear hd1 hd2 hn
                          go_wp2_with fail
                          exact ⟨⟨n + 1, by simp, HCN.out, HX.out, trivial⟩, by simp only [intOf]; have := HCN.out; omega⟩
                        · have t2 : ¬ ((x[n]'hcn).toNat : Int) ≤ 57 := by omega
                          as_aux_lemma =>
                            obtain ⟨t, HT⟩ : ∃ t, Hid (x.data.toList.take n = t) := ⟨_, rfl⟩
                            have hx : x.extract 0 n = sB t := by rw [← HT.out]; exact ext_take x n
                            have HTl : Hid (t.length ≤ 9223372036854775807) := by
                              show _ ≤ _
                              rw [← HT.out, List.length_take]
                              have : x.data.toList.length = x.size := by rw [Array.length_toList]; rfl
                              have := C1.out
                              unfold maxLen at this
                              omega
                            have HND : Hid (nD x.data.toList = n) := nD_uniq x n hn HAL.out (fun h => by have := isD_iff (x[n]'h); cases hq : isD (x[n]'h) with | false => rfl | true => exact absurd (this.1 hq).2 hd2)
                            have nI : (n : Int) ≤ (x.size : Int) := by omega
                            have n0 : (0 : Int) ≤ (n : Int) := by omega
                            have HPB : Hid (∀ (p : K) (y : World), p.length ≤ 19 → Calls Tryz.prog 28 #[.string (x.extract 0 n), sv p] y fun e w' => e = .returned (.bool (p.isPrefixOf t)) ∧ w' = y) := fun p y hp => by
                              rw [hx]
                              exact begins_any t p y HTl.out (by omega)
                            clear hd1 hd2 hn hx
                            go_wp2_with fail
                            go_loopw [22, 23, 24] (fun bv jv _ wr4 => ∃ (j : Nat) (bb : K), jv = .int .i64 (j : Int) ∧ j ≤ R ∧ bv = sv bb ∧ Hid (bst t (rest.take j) [] = bb) ∧ bb.length ≤ 19 ∧ Hid (Below wr.heap.size wr wr4)) (fun _ jv _ _ => R + 1 - (intOf jv).toNat)
                            case atStart => exact ⟨0, [], rfl, Nat.zero_le _, rfl, by show _ = _; simp [bst], by simp, Below.refl _ _⟩
                            case round =>
                              rename_i wr3 _ _ _ _
                              obtain ⟨j, bb, rfl, hj, rfl, HBB, hbb, HB4⟩ := hrel
                              by_cases hcj : j < R
                              · have r0 : (j : Int) < (R : Int) := by omega
                                have r1 : (0 : Int) ≤ (j : Int) := by omega
                                have r3 : (j : Int) + 1 ≤ 9223372036854775807 := by have := HRM.out; omega
                                have hjl : j < rest.length := by rw [HRL.out]; exact hcj
                                have hR5 := HR4.out.below HB4.out
                                obtain ⟨o5, c5, e5, hc5⟩ := hR5.cell
                                rw [HRL.out] at e5
                                cases e5
                                obtain ⟨g, rfl, cg⟩ := hc5 j hjl
                                obtain ⟨X, hT, hX⟩ := hR5.tri
                                have HU : Hid ((rest[j]'hjl).length ≤ 19) := by
                                  have := hT.keys _ (look_mem (k := rest[j]'hjl) (v := atB (rest[j]'hjl)) (by rw [HH3.out.lk, if_pos (List.getElem_mem hjl)]))
                                  simp only [okK, Bool.and_eq_true, decide_eq_true_eq] at this
                                  exact this.2
                                have HS : Hid (bst t (rest.take (j + 1)) [] = (if (rest[j]'hjl).isPrefixOf t && decide (bb.length < (rest[j]'hjl).length) then rest[j]'hjl else bb)) := by
                                  show _ = _
                                  rw [List.take_succ_eq_append_getElem hjl, bst_snoc, HBB.out]
                                obtain ⟨u, hu⟩ : ∃ u, rest[j]'hjl = u := ⟨_, rfl⟩
                                rw [hu] at cg HU HS
                                have pb := fun y => HPB.out u y HU.out
                                have HCJ : Hid (j < R) := hcj
                                clear hu hjl hR5 hc5 hT hX hcj hj
                                cases hpf : u.isPrefixOf t with
                                | true =>
                                  rw [hpf] at pb HS
                                  by_cases hlt : bb.length < u.length
                                  · have t1 : ((bb.length : Nat) : Int) < ((u.length : Nat) : Int) := by omega
                                    have HS2 : Hid (bst t (rest.take (j + 1)) [] = u) := by show _ = _; rw [HS.out]; simp [hlt]
                                    clear HS hpf
                                    go_wp2_with fail
                                    go_quiet ((go_at_call 28; exact Calls.quiet_of_same (pb _)))
                                    go_wp2_with fail
                                    exact ⟨⟨j + 1, u, by simp, HCJ.out, rfl, HS2, HU.out, below_drewN HB4.out _⟩, by simp only [intOf]; have := HCJ.out; omega⟩
                                  · have t1 : ¬ ((bb.length : Nat) : Int) < ((u.length : Nat) : Int) := by omega
                                    have HS2 : Hid (bst t (rest.take (j + 1)) [] = bb) := by show _ = _; rw [HS.out]; simp [hlt]
                                    clear HS hpf
                                    go_wp2_with fail
                                    go_quiet ((go_at_call 28; exact Calls.quiet_of_same (pb _)))
                                    go_wp2_with fail
                                    exact ⟨⟨j + 1, bb, by simp, HCJ.out, rfl, HS2, hbb, below_drewN HB4.out _⟩, by simp only [intOf]; have := HCJ.out; omega⟩
                                | false =>
                                  rw [hpf] at pb HS
                                  have HS2 : Hid (bst t (rest.take (j + 1)) [] = bb) := by show _ = _; rw [HS.out]; simp
                                  clear HS hpf
                                  go_wp2_with fail
                                  go_quiet ((go_at_call 28; exact Calls.quiet_of_same (pb _)))
                                  go_wp2_with fail
                                  exact ⟨⟨j + 1, bb, by simp, HCJ.out, rfl, HS2, hbb, below_drewN HB4.out _⟩, by simp only [intOf]; have := HCJ.out; omega⟩
                              · have r0 : ¬ (j : Int) < (R : Int) := by omega
                                have hR5 := HR4.out.below HB4.out
                                obtain ⟨X, hT, hX⟩ := hR5.tri
                                have hfb := lon_bst HH3.out hT.keys x.data.toList
                                rw [HND.out, HT.out] at hfb
                                have hbe : bst t rest [] = bb := by
                                  have := HBB.out
                                  rwa [List.take_of_length_le (by rw [HRL.out]; omega)] at this
                                rw [hbe] at hfb
                                have hxl : x.data.toList.length = x.size := by rw [Array.length_toList]; rfl
                                rw [hxl] at hfb
                                have pf := find_any _ X B L2 x hT C1.out
                                have hb4 := keepB hb HB4.out
                                have HR5 := hR5
                                replace HR5 : Hid (Row _ w2.heap.size B L2 (.slice orr R cr) rest) := HR5
                                clear hbe hxl hT hX HBB hR5 HPB hj hcj
                                rcases hfb with ⟨rfl, hl⟩ | ⟨hne, hl⟩
                                · replace pf := pf.mono fun e y h => (⟨by have := h.1; rw [FindPost, hl] at this; exact this, h.2⟩ : e = .returned (.tuple #[.string ⟨#[]⟩, .int .i64 0, .bool false]) ∧ _)
                                  clear hl
                                  go_wp2_with fail
                                  refine pf.mono ?_
                                  rintro e y ⟨rfl, k5⟩
                                  have hb5 := keepB hb4 k5
                                  have HR6 := HR5.out.below k5
                                  clear pf
                                  go_wp2_with fail
                                  exact ⟨⟨i + 1, by simp, HCI.out.1, HCI.out.2, HR6, hb5⟩, by simp only [intOf]; have := HCI.out.2; omega⟩
                                · replace pf := pf.mono fun e y h => (⟨by have := h.1; rw [FindPost, hl] at this; exact this, h.2⟩ : e = .returned (.tuple #[.string ((⟨#[97, 116, 32]⟩ : ByteArray) ++ sB bb), .int .i64 (bb.length : Int), .bool true]) ∧ _)
                                  have hem : bb.isEmpty = false := by cases bb with | nil => exact absurd rfl hne | cons => rfl
                                  have pl2 : ¬ 9223372036854775807 < 3 + bb.length := by omega
                                  clear hl hne hbb
                                  go_wp2_with fail
                                  refine pf.mono ?_
                                  rintro e y ⟨rfl, k5⟩
                                  have hb5 := keepB hb4 k5
                                  have HR6 := HR5.out.below k5
                                  clear pf
                                  go_wp2_with fail
                                  exact ⟨⟨i + 1, by simp, HCI.out.1, HCI.out.2, HR6, hb5⟩, by simp only [intOf]; have := HCI.out.2; omega⟩
                      · have t1 : ¬ (48 : Int) ≤ ((x[n]'hcn).toNat : Int) := by omega
                        as_aux_lemma =>
                          obtain ⟨t, HT⟩ : ∃ t, Hid (x.data.toList.take n = t) := ⟨_, rfl⟩
                          have hx : x.extract 0 n = sB t := by rw [← HT.out]; exact ext_take x n
                          have HTl : Hid (t.length ≤ 9223372036854775807) := by
                            show _ ≤ _
                            rw [← HT.out, List.length_take]
                            have : x.data.toList.length = x.size := by rw [Array.length_toList]; rfl
                            have := C1.out
                            unfold maxLen at this
                            omega
                          have HND : Hid (nD x.data.toList = n) := nD_uniq x n hn HAL.out (fun h => by have := isD_iff (x[n]'h); cases hq : isD (x[n]'h) with | false => rfl | true => exact absurd (this.1 hq).1 hd1)
                          have nI : (n : Int) ≤ (x.size : Int) := by omega
                          have n0 : (0 : Int) ≤ (n : Int) := by omega
                          have HPB : Hid (∀ (p : K) (y : World), p.length ≤ 19 → Calls Tryz.prog 28 #[.string (x.extract 0 n), sv p] y fun e w' => e = .returned (.bool (p.isPrefixOf t)) ∧ w' = y) := fun p y hp => by
                            rw [hx]
                            exact begins_any t p y HTl.out (by omega)
                          clear hd1 hn hx
                          go_wp2_with fail
                          go_loopw [22, 23, 24] (fun bv jv _ wr4 => ∃ (j : Nat) (bb : K), jv = .int .i64 (j : Int) ∧ j ≤ R ∧ bv = sv bb ∧ Hid (bst t (rest.take j) [] = bb) ∧ bb.length ≤ 19 ∧ Hid (Below wr.heap.size wr wr4)) (fun _ jv _ _ => R + 1 - (intOf jv).toNat)
                          case atStart => exact ⟨0, [], rfl, Nat.zero_le _, rfl, by show _ = _; simp [bst], by simp, Below.refl _ _⟩
                          case round =>
                            rename_i wr3 _ _ _ _
                            obtain ⟨j, bb, rfl, hj, rfl, HBB, hbb, HB4⟩ := hrel
                            by_cases hcj : j < R
                            · have r0 : (j : Int) < (R : Int) := by omega
                              have r1 : (0 : Int) ≤ (j : Int) := by omega
                              have r3 : (j : Int) + 1 ≤ 9223372036854775807 := by have := HRM.out; omega
                              have hjl : j < rest.length := by rw [HRL.out]; exact hcj
                              have hR5 := HR4.out.below HB4.out
                              obtain ⟨o5, c5, e5, hc5⟩ := hR5.cell
                              rw [HRL.out] at e5
                              cases e5
                              obtain ⟨g, rfl, cg⟩ := hc5 j hjl
                              obtain ⟨X, hT, hX⟩ := hR5.tri
                              have HU : Hid ((rest[j]'hjl).length ≤ 19) := by
                                have := hT.keys _ (look_mem (k := rest[j]'hjl) (v := atB (rest[j]'hjl)) (by rw [HH3.out.lk, if_pos (List.getElem_mem hjl)]))
                                simp only [okK, Bool.and_eq_true, decide_eq_true_eq] at this
                                exact this.2
                              have HS : Hid (bst t (rest.take (j + 1)) [] = (if (rest[j]'hjl).isPrefixOf t && decide (bb.length < (rest[j]'hjl).length) then rest[j]'hjl else bb)) := by
                                show _ = _
                                rw [List.take_succ_eq_append_getElem hjl, bst_snoc, HBB.out]
                              obtain ⟨u, hu⟩ : ∃ u, rest[j]'hjl = u := ⟨_, rfl⟩
                              rw [hu] at cg HU HS
                              have pb := fun y => HPB.out u y HU.out
                              have HCJ : Hid (j < R) := hcj
                              clear hu hjl hR5 hc5 hT hX hcj hj
                              cases hpf : u.isPrefixOf t with
                              | true =>
                                rw [hpf] at pb HS
                                by_cases hlt : bb.length < u.length
                                · have t1 : ((bb.length : Nat) : Int) < ((u.length : Nat) : Int) := by omega
                                  have HS2 : Hid (bst t (rest.take (j + 1)) [] = u) := by show _ = _; rw [HS.out]; simp [hlt]
                                  clear HS hpf
                                  go_wp2_with fail
                                  go_quiet ((go_at_call 28; exact Calls.quiet_of_same (pb _)))
                                  go_wp2_with fail
                                  exact ⟨⟨j + 1, u, by simp, HCJ.out, rfl, HS2, HU.out, below_drewN HB4.out _⟩, by simp only [intOf]; have := HCJ.out; omega⟩
                                · have t1 : ¬ ((bb.length : Nat) : Int) < ((u.length : Nat) : Int) := by omega
                                  have HS2 : Hid (bst t (rest.take (j + 1)) [] = bb) := by show _ = _; rw [HS.out]; simp [hlt]
                                  clear HS hpf
                                  go_wp2_with fail
                                  go_quiet ((go_at_call 28; exact Calls.quiet_of_same (pb _)))
                                  go_wp2_with fail
                                  exact ⟨⟨j + 1, bb, by simp, HCJ.out, rfl, HS2, hbb, below_drewN HB4.out _⟩, by simp only [intOf]; have := HCJ.out; omega⟩
                              | false =>
                                rw [hpf] at pb HS
                                have HS2 : Hid (bst t (rest.take (j + 1)) [] = bb) := by show _ = _; rw [HS.out]; simp
                                clear HS hpf
                                go_wp2_with fail
                                go_quiet ((go_at_call 28; exact Calls.quiet_of_same (pb _)))
                                go_wp2_with fail
                                exact ⟨⟨j + 1, bb, by simp, HCJ.out, rfl, HS2, hbb, below_drewN HB4.out _⟩, by simp only [intOf]; have := HCJ.out; omega⟩
                            · have r0 : ¬ (j : Int) < (R : Int) := by omega
                              have hR5 := HR4.out.below HB4.out
                              obtain ⟨X, hT, hX⟩ := hR5.tri
                              have hfb := lon_bst HH3.out hT.keys x.data.toList
                              rw [HND.out, HT.out] at hfb
                              have hbe : bst t rest [] = bb := by
                                have := HBB.out
                                rwa [List.take_of_length_le (by rw [HRL.out]; omega)] at this
                              rw [hbe] at hfb
                              have hxl : x.data.toList.length = x.size := by rw [Array.length_toList]; rfl
                              rw [hxl] at hfb
                              have pf := find_any _ X B L2 x hT C1.out
                              have hb4 := keepB hb HB4.out
                              have HR5 := hR5
                              replace HR5 : Hid (Row _ w2.heap.size B L2 (.slice orr R cr) rest) := HR5
                              clear hbe hxl hT hX HBB hR5 HPB hj hcj
                              rcases hfb with ⟨rfl, hl⟩ | ⟨hne, hl⟩
                              · replace pf := pf.mono fun e y h => (⟨by have := h.1; rw [FindPost, hl] at this; exact this, h.2⟩ : e = .returned (.tuple #[.string ⟨#[]⟩, .int .i64 0, .bool false]) ∧ _)
                                clear hl
                                go_wp2_with fail
                                refine pf.mono ?_
                                rintro e y ⟨rfl, k5⟩
                                have hb5 := keepB hb4 k5
                                have HR6 := HR5.out.below k5
                                clear pf
                                go_wp2_with fail
                                exact ⟨⟨i + 1, by simp, HCI.out.1, HCI.out.2, HR6, hb5⟩, by simp only [intOf]; have := HCI.out.2; omega⟩
                              · replace pf := pf.mono fun e y h => (⟨by have := h.1; rw [FindPost, hl] at this; exact this, h.2⟩ : e = .returned (.tuple #[.string ((⟨#[97, 116, 32]⟩ : ByteArray) ++ sB bb), .int .i64 (bb.length : Int), .bool true]) ∧ _)
                                have hem : bb.isEmpty = false := by cases bb with | nil => exact absurd rfl hne | cons => rfl
                                have pl2 : ¬ 9223372036854775807 < 3 + bb.length := by omega
                                clear hl hne hbb
                                go_wp2_with fail
                                refine pf.mono ?_
                                rintro e y ⟨rfl, k5⟩
                                have hb5 := keepB hb4 k5
                                have HR6 := HR5.out.below k5
                                clear pf
                                go_wp2_with fail
                                exact ⟨⟨i + 1, by simp, HCI.out.1, HCI.out.2, HR6, hb5⟩, by simp only [intOf]; have := HCI.out.2; omega⟩
                    · have s0 : ¬ (n : Int) < (x.size : Int) := by omega
                      as_aux_lemma =>
                        obtain ⟨t, HT⟩ : ∃ t, Hid (x.data.toList.take n = t) := ⟨_, rfl⟩
                        have hx : x.extract 0 n = sB t := by rw [← HT.out]; exact ext_take x n
                        have HTl : Hid (t.length ≤ 9223372036854775807) := by
                          show _ ≤ _
                          rw [← HT.out, List.length_take]
                          have : x.data.toList.length = x.size := by rw [Array.length_toList]; rfl
                          have := C1.out
                          unfold maxLen at this
                          omega
                        have HND : Hid (nD x.data.toList = n) := nD_uniq x n hn HAL.out (fun h => absurd h hcn)
                        have nI : (n : Int) ≤ (x.size : Int) := by omega
                        have n0 : (0 : Int) ≤ (n : Int) := by omega
                        have HPB : Hid (∀ (p : K) (y : World), p.length ≤ 19 → Calls Tryz.prog 28 #[.string (x.extract 0 n), sv p] y fun e w' => e = .returned (.bool (p.isPrefixOf t)) ∧ w' = y) := fun p y hp => by
                          rw [hx]
                          exact begins_any t p y HTl.out (by omega)
                        clear hn hcn hx
                        go_wp2_with fail
                        go_loopw [22, 23, 24] (fun bv jv _ wr4 => ∃ (j : Nat) (bb : K), jv = .int .i64 (j : Int) ∧ j ≤ R ∧ bv = sv bb ∧ Hid (bst t (rest.take j) [] = bb) ∧ bb.length ≤ 19 ∧ Hid (Below wr.heap.size wr wr4)) (fun _ jv _ _ => R + 1 - (intOf jv).toNat)
                        case atStart => exact ⟨0, [], rfl, Nat.zero_le _, rfl, by show _ = _; simp [bst], by simp, Below.refl _ _⟩
                        case round =>
                          rename_i wr3 _ _ _ _
                          obtain ⟨j, bb, rfl, hj, rfl, HBB, hbb, HB4⟩ := hrel
                          by_cases hcj : j < R
                          · have r0 : (j : Int) < (R : Int) := by omega
                            have r1 : (0 : Int) ≤ (j : Int) := by omega
                            have r3 : (j : Int) + 1 ≤ 9223372036854775807 := by have := HRM.out; omega
                            have hjl : j < rest.length := by rw [HRL.out]; exact hcj
                            have hR5 := HR4.out.below HB4.out
                            obtain ⟨o5, c5, e5, hc5⟩ := hR5.cell
                            rw [HRL.out] at e5
                            cases e5
                            obtain ⟨g, rfl, cg⟩ := hc5 j hjl
                            obtain ⟨X, hT, hX⟩ := hR5.tri
                            have HU : Hid ((rest[j]'hjl).length ≤ 19) := by
                              have := hT.keys _ (look_mem (k := rest[j]'hjl) (v := atB (rest[j]'hjl)) (by rw [HH3.out.lk, if_pos (List.getElem_mem hjl)]))
                              simp only [okK, Bool.and_eq_true, decide_eq_true_eq] at this
                              exact this.2
                            have HS : Hid (bst t (rest.take (j + 1)) [] = (if (rest[j]'hjl).isPrefixOf t && decide (bb.length < (rest[j]'hjl).length) then rest[j]'hjl else bb)) := by
                              show _ = _
                              rw [List.take_succ_eq_append_getElem hjl, bst_snoc, HBB.out]
                            obtain ⟨u, hu⟩ : ∃ u, rest[j]'hjl = u := ⟨_, rfl⟩
                            rw [hu] at cg HU HS
                            have pb := fun y => HPB.out u y HU.out
                            have HCJ : Hid (j < R) := hcj
                            clear hu hjl hR5 hc5 hT hX hcj hj
                            cases hpf : u.isPrefixOf t with
                            | true =>
                              rw [hpf] at pb HS
                              by_cases hlt : bb.length < u.length
                              · have t1 : ((bb.length : Nat) : Int) < ((u.length : Nat) : Int) := by omega
                                have HS2 : Hid (bst t (rest.take (j + 1)) [] = u) := by show _ = _; rw [HS.out]; simp [hlt]
                                clear HS hpf
                                go_wp2_with fail
                                go_quiet ((go_at_call 28; exact Calls.quiet_of_same (pb _)))
                                go_wp2_with fail
                                exact ⟨⟨j + 1, u, by simp, HCJ.out, rfl, HS2, HU.out, below_drewN HB4.out _⟩, by simp only [intOf]; have := HCJ.out; omega⟩
                              · have t1 : ¬ ((bb.length : Nat) : Int) < ((u.length : Nat) : Int) := by omega
                                have HS2 : Hid (bst t (rest.take (j + 1)) [] = bb) := by show _ = _; rw [HS.out]; simp [hlt]
                                clear HS hpf
                                go_wp2_with fail
                                go_quiet ((go_at_call 28; exact Calls.quiet_of_same (pb _)))
                                go_wp2_with fail
                                exact ⟨⟨j + 1, bb, by simp, HCJ.out, rfl, HS2, hbb, below_drewN HB4.out _⟩, by simp only [intOf]; have := HCJ.out; omega⟩
                            | false =>
                              rw [hpf] at pb HS
                              have HS2 : Hid (bst t (rest.take (j + 1)) [] = bb) := by show _ = _; rw [HS.out]; simp
                              clear HS hpf
                              go_wp2_with fail
                              go_quiet ((go_at_call 28; exact Calls.quiet_of_same (pb _)))
                              go_wp2_with fail
                              exact ⟨⟨j + 1, bb, by simp, HCJ.out, rfl, HS2, hbb, below_drewN HB4.out _⟩, by simp only [intOf]; have := HCJ.out; omega⟩
                          · have r0 : ¬ (j : Int) < (R : Int) := by omega
                            have hR5 := HR4.out.below HB4.out
                            obtain ⟨X, hT, hX⟩ := hR5.tri
                            have hfb := lon_bst HH3.out hT.keys x.data.toList
                            rw [HND.out, HT.out] at hfb
                            have hbe : bst t rest [] = bb := by
                              have := HBB.out
                              rwa [List.take_of_length_le (by rw [HRL.out]; omega)] at this
                            rw [hbe] at hfb
                            have hxl : x.data.toList.length = x.size := by rw [Array.length_toList]; rfl
                            rw [hxl] at hfb
                            have pf := find_any _ X B L2 x hT C1.out
                            have hb4 := keepB hb HB4.out
                            have HR5 := hR5
                            replace HR5 : Hid (Row _ w2.heap.size B L2 (.slice orr R cr) rest) := HR5
                            clear hbe hxl hT hX HBB hR5 HPB hj hcj
                            rcases hfb with ⟨rfl, hl⟩ | ⟨hne, hl⟩
                            · replace pf := pf.mono fun e y h => (⟨by have := h.1; rw [FindPost, hl] at this; exact this, h.2⟩ : e = .returned (.tuple #[.string ⟨#[]⟩, .int .i64 0, .bool false]) ∧ _)
                              clear hl
                              go_wp2_with fail
                              refine pf.mono ?_
                              rintro e y ⟨rfl, k5⟩
                              have hb5 := keepB hb4 k5
                              have HR6 := HR5.out.below k5
                              clear pf
                              go_wp2_with fail
                              exact ⟨⟨i + 1, by simp, HCI.out.1, HCI.out.2, HR6, hb5⟩, by simp only [intOf]; have := HCI.out.2; omega⟩
                            · replace pf := pf.mono fun e y h => (⟨by have := h.1; rw [FindPost, hl] at this; exact this, h.2⟩ : e = .returned (.tuple #[.string ((⟨#[97, 116, 32]⟩ : ByteArray) ++ sB bb), .int .i64 (bb.length : Int), .bool true]) ∧ _)
                              have hem : bb.isEmpty = false := by cases bb with | nil => exact absurd rfl hne | cons => rfl
                              have pl2 : ¬ 9223372036854775807 < 3 + bb.length := by omega
                              clear hl hne hbb
                              go_wp2_with fail
                              refine pf.mono ?_
                              rintro e y ⟨rfl, k5⟩
                              have hb5 := keepB hb4 k5
                              have HR6 := HR5.out.below k5
                              clear pf
                              go_wp2_with fail
                              exact ⟨⟨i + 1, by simp, HCI.out.1, HCI.out.2, HR6, hb5⟩, by simp only [intOf]; have := HCI.out.2; omega⟩
                · rcases (by omega : ¬ i < N2 ∨ (i < N2 ∧ ¬ i < 60)) with h | ⟨h, h'⟩
                  · have p0 : ¬ (i : Int) < (N2 : Int) := by omega
                    clear hci
                    go_wp2_with fail
                    go_ret
                    exact ⟨rfl, hb⟩
                  · have p0 : (i : Int) < (N2 : Int) := by omega
                    have p1 : ¬ (i : Int) < 60 := by omega
                    clear hci
                    go_wp2_with fail
                    go_ret
                    exact ⟨rfl, hb⟩
      · have p0 : (k : Int) < (N0 : Int) := by omega
        have p0' : ¬ (k : Int) < 200 := by omega
        clear h h'
        as_aux_lemma =>
          obtain ⟨ol, cl, rfl, hcl⟩ := hR.cell
          obtain ⟨M, HM⟩ : ∃ M, Hid (l.length = M) := ⟨_, rfl⟩
          rw [HM.out] at hlk ⊢
          have HM2 : Hid (M ≤ 200) := by show _ ≤ _; omega
          have HR : Hid (Row wr y1.heap.size B L (.slice ol M cl) l) := by show Row _ _ _ _ _ _; rw [← HM.out]; exact hR
          obtain ⟨w2, hw2⟩ : ∃ w2, wr = w2 := ⟨_, rfl⟩
          have HCL : Hid (∀ x, Fr [B] w2 x → ∀ i (hi : i < l.length), ∃ g, ol = some ⟨g, 0, none⟩ ∧ x.cell? ⟨g, i, none⟩ = some (sv l[i])) := fun x hx => by
            have := HR.out
            rw [hw2] at this
            exact this.cellFr hx
          have HW2 : Hid (w.heap.size ≤ w2.heap.size) := by show _ ≤ _; rw [← hw2]; exact hb.size
          have HRN : Hid (∃ X, Tri w2 X B L) := by obtain ⟨X, h, _⟩ := hR.tri; rw [hw2] at h; exact ⟨X, h⟩
          have hkeys : Hid (∀ p ∈ l, okK p = true) := fun p hp => by
            obtain ⟨X, h, _⟩ := hR.tri
            exact h.keys _ (look_mem (k := p) (v := atB p) (by rw [hH.lk, if_pos hp]))
          have hb2 : Below w.heap.size w w2 := by rw [← hw2]; exact hb
          have HH0 : Hid (Hold L l) := hH
          clear hcl hR hlk hb hy hH hc
          rw [hw2]
          clear hw2 HR wr
          go_wp2_with fail
          obtain ⟨q0, hq0⟩ : ∃ q0 : Value, q0 = .slice none 0 0 := ⟨_, rfl⟩
          have hR0 : Row w2 w2.heap.size B L q0 [] := by obtain ⟨X, h⟩ := HRN.out; rw [hq0]; exact Row.new h
          rw [← hq0]
          clear hq0
          go_loopw [15, 16, 17, 18] (fun rv iv _ _ wr => ∃ (i : Nat) (rest : List K) (L2 : LT), iv = .int .i64 (i : Int) ∧ i ≤ M ∧ rest.length ≤ i ∧ Row wr w2.heap.size B L2 rv rest ∧ Hold L2 (rest ++ l.drop i) ∧ Fr [B] w2 wr ∧ Below w.heap.size w wr) (fun _ iv _ _ _ => M + 1 - (intOf iv).toNat)
          case atStart => exact ⟨0, [], L, rfl, Nat.zero_le _, Nat.le_refl _, hR0, by simpa using HH0.out, Fr.refl _ _, hb2⟩
          case round =>
            obtain ⟨i, rest, L2, rfl, hiM, hri, hR, hH, hfr, hb⟩ := hrel
            obtain ⟨orr, cr, rfl, hcr⟩ := hR.cell
            obtain ⟨R, HRL⟩ : ∃ R, Hid (rest.length = R) := ⟨_, rfl⟩
            rw [HRL.out] at hri hR ⊢
            have HRI : Hid (R ≤ i) := hri
            by_cases hci : i < M
            · have p0 : (i : Int) < (M : Int) := by omega
              have p1 : (0 : Int) ≤ (i : Int) := by omega
              have p3 : (i : Int) + 1 ≤ 9223372036854775807 := by have := HM2.out; omega
              have hil : i < l.length := by rw [HM.out]; exact hci
              obtain ⟨g, rfl, cg⟩ := HCL.out wr hfr i hil
              have HSM : Hid (rest ++ l.drop i = (rest ++ [l[i]'hil]) ++ l.drop (i + 1)) := hold_move _ _ _ hil
              have HSP : Hid (rest ++ l.drop i = rest ++ (l[i]'hil) :: l.drop (i + 1)) := hold_split _ _ _ hil
              have HU : Hid ((l[i]'hil).length ≤ 19) := by
                have := hkeys.out _ (List.getElem_mem hil)
                simp only [okK, Bool.and_eq_true, decide_eq_true_eq] at this
                exact this.2
              obtain ⟨u, hu⟩ : ∃ u, l[i]'hil = u := ⟨_, rfl⟩
              have HU0 : Hid (∀ h : i < l.length, l[i]'h = u) := fun _ => hu
              rw [hu] at cg HSM HSP HU
              obtain ⟨X, hT, hX⟩ := hR.tri
              have HCI : Hid (i < M) := hci
              have HLN : Hid ((rest ++ l.drop i).length < 4611686018427387904) := by
                show _ < _
                rw [List.length_append, List.length_drop, HRL.out, HM.out]
                have := HRI.out; have := HM2.out; omega
              have HLN2 : Hid ((rest ++ l.drop (i + 1)).length < 4611686018427387904) := by
                show _ < _
                rw [List.length_append, List.length_drop, HRL.out, HM.out]
                have := HRI.out; have := HM2.out; omega
              clear hu hil hri hiM hci
              have hL1 := LA1.out wr hb
              by_cases hg : i < n1
              · have p4 : ¬ (n1 : Int) ≤ (i : Int) := by omega
                have p5 : (i : Int) < (n1 : Int) := by omega
                rcases hL1 with ⟨he, hz⟩ | ⟨a1, cap', he, hh1, hh2, hcl⟩
                · omega
                · cases he
                  have cb := hcl i hg
                  cases hzi : z1 i with
                  | true =>
                    rw [hzi] at cb
                    clear hzi hh1 hh2 hg
                    have dd := drop_any wr X B L2 (sB u) hT (by show u.length ≤ maxLen; have := HU.out; unfold maxLen; omega) (by have := hH.len; have := HLN.out; omega)
                    rw [show (sB u).data.toList = u from rfl] at dd
                    have hat : isAt L2 u = true := by rw [hH.at]; simp [HSP.out]
                    have HH3 : Hid (Hold (del L2 u) (rest ++ l.drop (i + 1))) := by
                      have := hH
                      rw [HSP.out] at this
                      exact this.del hT.srt
                    have HND : Hid (u ∉ rest ++ l.drop (i + 1)) := by
                      have := hH.nd
                      rw [HSP.out] at this
                      intro hm
                      rw [List.nodup_append] at this
                      have h2 := List.nodup_cons.1 this.2.1
                      rcases List.mem_append.1 hm with hm | hm
                      · exact this.2.2 u hm u (by simp) rfl
                      · exact h2.1 hm
                    simp only [hat, if_true] at dd
                    have HXX : Hid (∀ g, (Value.slice orr R cr).ownBlock = some g → g ∈ X) := hX
                    have HR2 : Hid (Row wr w2.heap.size B L2 (.slice orr R cr) rest) := hR
                    have HFR : Hid (Fr [B] w2 wr) := hfr
                    clear hat hX hH hR hfr hcl hcr
                    go_wp2_with fail
                    refine dd.mono ?_
                    rintro e x3 ⟨rfl, hT3, k3⟩
                    clear dd
                    have hR3 := HR2.out.put HXX.out hT k3 hT3
                    have hb3 := Fr.behind hb k3 (by simp; exact HBw.out)
                    have hfr3 := HFR.out.trans k3
                    obtain ⟨g', eg, cg'⟩ := HCL.out x3 hfr3 i (by rw [HM.out]; exact HCI.out)
                    cases eg
                    rw [HU0.out _] at cg'
                    have dd := drop_any x3 X B (del L2 u) (sB u) hT3 (by show u.length ≤ maxLen; have := HU.out; unfold maxLen; omega) (by have := HH3.out.len; have := HLN2.out; omega)
                    rw [show (sB u).data.toList = u from rfl] at dd
                    have hat : isAt (del L2 u) u = false := by rw [HH3.out.at]; simpa using HND.out
                    simp only [hat, if_neg (Bool.false_ne_true)] at dd
                    clear hat cg
                    go_wp2_with fail
                    refine dd.mono ?_
                    rintro e x4 ⟨rfl, hT4, k4⟩
                    clear dd
                    have hR4 := hR3.put HXX.out hT3 k4 hT4
                    have hb4 := Fr.behind hb3 k4 (by simp; exact HBw.out)
                    have hfr4 := hfr3.trans k4
                    clear cg'
                    go_wp2_with fail
                    exact ⟨⟨i + 1, rest, del L2 u, by simp, HCI.out, by have := HRI.out; have := HRL.out; omega, hR4, HH3.out, hfr4, hb4⟩, by simp only [intOf]; have := HCI.out; omega⟩
                  | false =>
                    rw [hzi] at cb
                    clear hzi hh1 hh2 hg
                    have hrow : wr.ownsRow w2.heap.size tS 1 (.slice orr R cr) R (rest.map sv) := by have := hR.row; rw [HRL.out] at this; exact this
                    have hR3 : R ≤ 200 := by have := HRI.out; have := HM2.out; have := HCI.out; omega
                    have HH3 : Hid (Hold L2 ((rest ++ [u]) ++ l.drop (i + 1))) := by
                      have := hH
                      rw [HSM.out] at this
                      exact this
                    have HR2 : Hid (Row wr w2.heap.size B L2 (.slice orr R cr) rest) := hR
                    have HFR : Hid (Fr [B] w2 wr) := hfr
                    have hws : w2.heap.size ≤ wr.heap.size := hfr.size
                    clear hH hR hX hfr hcl hcr
                    go_wp2_with (at_builtin; refine wpList_append_lies _ rfl _ _ _ rfl w2.heap.size 9 i0 _ 1 16 Tryz.underlying73 hi hz0 hz1 hz2 rfl (by omega) _ R _ rfl (hrow.alloc _) ⟨wr.heap.size, 0, none⟩ 1 1 _ rfl (by rfl) (World.news_of_block (heap_alloc_new wr _)) (by simp [Value.oneCell']) (by omega) (by unfold maxLen; omega) (by omega) (by first | omega | (simp <;> omega)) (wr.heap.size + 1) (by simp) ?_; intro gg cap w1 hown1 hgrow hat hlt1)
                    have hRl := HRL.out
                    refine ⟨⟨i + 1, rest ++ [u], L2, by simp, HCI.out, by rw [List.length_append]; have := HRI.out; simp; omega, ?_, HH3.out, Fr.grown (HFR.out.alloc _) hgrow (fun g e => .inr (own_from hrow g e)), below_app0 hb hb.size (own_base hrow HW2.out) hgrow⟩, by simp only [intOf]; have := HCI.out; omega⟩
                    subst hRl
                    exact Row.app HR2.out hown1 hgrow hat hlt1
              · have p4 : (n1 : Int) ≤ (i : Int) := by omega
                have hcl : True := trivial
                clear hL1 hg
                have hrow : wr.ownsRow w2.heap.size tS 1 (.slice orr R cr) R (rest.map sv) := by have := hR.row; rw [HRL.out] at this; exact this
                have hR3 : R ≤ 200 := by have := HRI.out; have := HM2.out; have := HCI.out; omega
                have HH3 : Hid (Hold L2 ((rest ++ [u]) ++ l.drop (i + 1))) := by
                  have := hH
                  rw [HSM.out] at this
                  exact this
                have HR2 : Hid (Row wr w2.heap.size B L2 (.slice orr R cr) rest) := hR
                have HFR : Hid (Fr [B] w2 wr) := hfr
                have hws : w2.heap.size ≤ wr.heap.size := hfr.size
                clear hH hR hX hfr hcl hcr
                go_wp2_with (at_builtin; refine wpList_append_lies _ rfl _ _ _ rfl w2.heap.size 9 i0 _ 1 16 Tryz.underlying73 hi hz0 hz1 hz2 rfl (by omega) _ R _ rfl (hrow.alloc _) ⟨wr.heap.size, 0, none⟩ 1 1 _ rfl (by rfl) (World.news_of_block (heap_alloc_new wr _)) (by simp [Value.oneCell']) (by omega) (by unfold maxLen; omega) (by omega) (by first | omega | (simp <;> omega)) (wr.heap.size + 1) (by simp) ?_; intro gg cap w1 hown1 hgrow hat hlt1)
                have hRl := HRL.out
                refine ⟨⟨i + 1, rest ++ [u], L2, by simp, HCI.out, by rw [List.length_append]; have := HRI.out; simp; omega, ?_, HH3.out, Fr.grown (HFR.out.alloc _) hgrow (fun g e => .inr (own_from hrow g e)), below_app0 hb hb.size (own_base hrow HW2.out) hgrow⟩, by simp only [intOf]; have := HCI.out; omega⟩
                subst hRl
                exact Row.app HR2.out hown1 hgrow hat hlt1
            · have p0 : ¬ (i : Int) < (M : Int) := by omega
              have hH2 : Hold L2 rest := by
                have := hH
                rw [List.drop_of_length_le (by rw [HM.out]; omega), List.append_nil] at this
                exact this
              obtain ⟨X, hT, hX⟩ := hR.tri
              have pl := len_any wr X B L2 hT
              have q7 : (L2.length : Int) = (R : Int) := by rw [hH2.len, HRL.out]
              rw [q7] at pl
              have HH3 : Hid (Hold L2 rest) := hH2
              have HR3 : Hid (Row wr w2.heap.size B L2 (.slice orr R cr) rest) := hR
              have HRM : Hid (R ≤ 200) := by show _ ≤ _; have := HM2.out; omega
              clear hH hH2 hT hX q7 hcr hR hri hiM hci hfr
              go_wp2_with fail
              refine pl.mono ?_
              rintro e x3 ⟨rfl, hx3⟩
              rw [hx3]
              clear hx3 x3 pl
              go_wp2_with fail
              go_loopw [19] (fun iv wr => ∃ i : Nat, iv = .int .i64 (i : Int) ∧ i ≤ N2 ∧ i ≤ 60 ∧ Row wr w2.heap.size B L2 (.slice orr R cr) rest ∧ Below w.heap.size w wr) (fun iv _ => 61 - (intOf iv).toNat)
              case atStart => exact ⟨0, rfl, Nat.zero_le _, by omega, HR3.out, hb⟩
              case round =>
                obtain ⟨i, rfl, hi2, hi60, hR4, hb⟩ := hrel
                by_cases hci : i < N2 ∧ i < 60
                · obtain ⟨hc1, hc2⟩ := hci
                  have p0 : (i : Int) < (N2 : Int) := by omega
                  have p1 : (0 : Int) ≤ (i : Int) := by omega
                  have p2 : (i : Int) < 60 := by omega
                  have p3 : (i : Int) + 1 ≤ 9223372036854775807 := by omega
                  obtain ⟨o', c', e', -, hcell⟩ := LA2.out wr hb
                  rw [HN2.out] at e'
                  cases e'
                  obtain ⟨a, rfl, c0, c1⟩ := hcell i (by rw [HN2.out]; exact hc1)
                  obtain ⟨x, hx⟩ : ∃ x, z2[i]'(by rw [HN2.out]; exact hc1) = x := ⟨_, rfl⟩
                  rw [hx] at c0 c1
                  clear hx hcell
                  have HCI : Hid (i < N2 ∧ i < 60) := ⟨hc1, hc2⟩
                  have HR4 : Hid (Row wr w2.heap.size B L2 (.slice orr R cr) rest) := hR4
                  have C1 : Hid (x.size ≤ maxLen) := c1
                  have xI : (x.size : Int) ≤ 9223372036854775807 := by unfold maxLen at c1; omega
                  clear hR4 c1 hc1 hc2 hi2 hi60
                  go_wp2_with fail
                  clear c0
                  go_loopw [21] (fun nv wr4 => ∃ n : Nat, nv = .int .i64 (n : Int) ∧ n ≤ x.size ∧ (∀ j (h : j < x.size), j < n → isD (x[j]'h) = true) ∧ wr4 = wr) (fun nv _ => x.size + 1 - (intOf nv).toNat)
                  case atStart => exact ⟨0, rfl, Nat.zero_le _, fun j h hj => absurd hj (Nat.not_lt_zero _), rfl⟩
                  case round =>
                    obtain ⟨n, rfl, hn, hall, hwr4⟩ := hrel
                    subst hwr4
                    have HAL : Hid (∀ j (h : j < x.size), j < n → isD (x[j]'h) = true) := hall
                    clear hall
                    by_cases hcn : n < x.size
                    · have s0 : (n : Int) < (x.size : Int) := by omega
                      have s1 : (0 : Int) ≤ (n : Int) := by omega
                      have s2 : (n : Int) + 1 ≤ 9223372036854775807 := by omega
                      have HCN : Hid (n < x.size) := hcn
                      by_cases hd1 : 48 ≤ (x[n]'hcn).toNat
                      · have t1 : (48 : Int) ≤ ((x[n]'hcn).toNat : Int) := by omega
                        by_cases hd2 : (x[n]'hcn).toNat ≤ 57
                        · have t2 : ((x[n]'hcn).toNat : Int) ≤ 57 := by omega
                          have HX : Hid (∀ j (h : j < x.size), j < n + 1 → isD (x[j]'h) = true) := fun j h hj => by
                            by_cases hjn : j < n
                            · exact HAL.out j h hjn
                            · have : j = n := by omega
                              subst this
                              rw [isD_iff]; exact ⟨hd1, hd2⟩
                          clear hd1 hd2 hn
                          go_wp2_with fail
                          exact ⟨⟨n + 1, by simp, HCN.out, HX.out, trivial⟩, by simp only [intOf]; have := HCN.out; omega⟩
                        · have t2 : ¬ ((x[n]'hcn).toNat : Int) ≤ 57 := by omega
                          as_aux_lemma =>
                            obtain ⟨t, HT⟩ : ∃ t, Hid (x.data.toList.take n = t) := ⟨_, rfl⟩
                            have hx : x.extract 0 n = sB t := by rw [← HT.out]; exact ext_take x n
                            have HTl : Hid (t.length ≤ 9223372036854775807) := by
                              show _ ≤ _
                              rw [← HT.out, List.length_take]
                              have : x.data.toList.length = x.size := by rw [Array.length_toList]; rfl
                              have := C1.out
                              unfold maxLen at this
                              omega
                            have HND : Hid (nD x.data.toList = n) := nD_uniq x n hn HAL.out (fun h => by have := isD_iff (x[n]'h); cases hq : isD (x[n]'h) with | false => rfl | true => exact absurd (this.1 hq).2 hd2)
                            have nI : (n : Int) ≤ (x.size : Int) := by omega
                            have n0 : (0 : Int) ≤ (n : Int) := by omega
                            have HPB : Hid (∀ (p : K) (y : World), p.length ≤ 19 → Calls Tryz.prog 28 #[.string (x.extract 0 n), sv p] y fun e w' => e = .returned (.bool (p.isPrefixOf t)) ∧ w' = y) := fun p y hp => by
                              rw [hx]
                              exact begins_any t p y HTl.out (by omega)
                            clear hd1 hd2 hn hx
                            go_wp2_with fail
                            go_loopw [22, 23, 24] (fun bv jv _ wr4 => ∃ (j : Nat) (bb : K), jv = .int .i64 (j : Int) ∧ j ≤ R ∧ bv = sv bb ∧ Hid (bst t (rest.take j) [] = bb) ∧ bb.length ≤ 19 ∧ Hid (Below wr.heap.size wr wr4)) (fun _ jv _ _ => R + 1 - (intOf jv).toNat)
                            case atStart => exact ⟨0, [], rfl, Nat.zero_le _, rfl, by show _ = _; simp [bst], by simp, Below.refl _ _⟩
                            case round =>
                              rename_i wr3 _ _ _ _
                              obtain ⟨j, bb, rfl, hj, rfl, HBB, hbb, HB4⟩ := hrel
                              by_cases hcj : j < R
                              · have r0 : (j : Int) < (R : Int) := by omega
                                have r1 : (0 : Int) ≤ (j : Int) := by omega
                                have r3 : (j : Int) + 1 ≤ 9223372036854775807 := by have := HRM.out; omega
                                have hjl : j < rest.length := by rw [HRL.out]; exact hcj
                                have hR5 := HR4.out.below HB4.out
                                obtain ⟨o5, c5, e5, hc5⟩ := hR5.cell
                                rw [HRL.out] at e5
                                cases e5
                                obtain ⟨g, rfl, cg⟩ := hc5 j hjl
                                obtain ⟨X, hT, hX⟩ := hR5.tri
                                have HU : Hid ((rest[j]'hjl).length ≤ 19) := by
                                  have := hT.keys _ (look_mem (k := rest[j]'hjl) (v := atB (rest[j]'hjl)) (by rw [HH3.out.lk, if_pos (List.getElem_mem hjl)]))
                                  simp only [okK, Bool.and_eq_true, decide_eq_true_eq] at this
                                  exact this.2
                                have HS : Hid (bst t (rest.take (j + 1)) [] = (if (rest[j]'hjl).isPrefixOf t && decide (bb.length < (rest[j]'hjl).length) then rest[j]'hjl else bb)) := by
                                  show _ = _
                                  rw [List.take_succ_eq_append_getElem hjl, bst_snoc, HBB.out]
                                obtain ⟨u, hu⟩ : ∃ u, rest[j]'hjl = u := ⟨_, rfl⟩
                                rw [hu] at cg HU HS
                                have pb := fun y => HPB.out u y HU.out
                                have HCJ : Hid (j < R) := hcj
                                clear hu hjl hR5 hc5 hT hX hcj hj
                                cases hpf : u.isPrefixOf t with
                                | true =>
                                  rw [hpf] at pb HS
                                  by_cases hlt : bb.length < u.length
                                  · have t1 : ((bb.length : Nat) : Int) < ((u.length : Nat) : Int) := by omega
                                    have HS2 : Hid (bst t (rest.take (j + 1)) [] = u) := by show _ = _; rw [HS.out]; simp [hlt]
                                    clear HS hpf
                                    go_wp2_with fail
                                    go_quiet ((go_at_call 28; exact Calls.quiet_of_same (pb _)))
                                    go_wp2_with fail
                                    exact ⟨⟨j + 1, u, by simp, HCJ.out, rfl, HS2, HU.out, below_drewN HB4.out _⟩, by simp only [intOf]; have := HCJ.out; omega⟩
                                  · have t1 : ¬ ((bb.length : Nat) : Int) < ((u.length : Nat) : Int) := by omega
                                    have HS2 : Hid (bst t (rest.take (j + 1)) [] = bb) := by show _ = _; rw [HS.out]; simp [hlt]
                                    clear HS hpf
                                    go_wp2_with fail
                                    go_quiet ((go_at_call 28; exact Calls.quiet_of_same (pb _)))
                                    go_wp2_with fail
                                    exact ⟨⟨j + 1, bb, by simp, HCJ.out, rfl, HS2, hbb, below_drewN HB4.out _⟩, by simp only [intOf]; have := HCJ.out; omega⟩
                                | false =>
                                  rw [hpf] at pb HS
                                  have HS2 : Hid (bst t (rest.take (j + 1)) [] = bb) := by show _ = _; rw [HS.out]; simp
                                  clear HS hpf
                                  go_wp2_with fail
                                  go_quiet ((go_at_call 28; exact Calls.quiet_of_same (pb _)))
                                  go_wp2_with fail
                                  exact ⟨⟨j + 1, bb, by simp, HCJ.out, rfl, HS2, hbb, below_drewN HB4.out _⟩, by simp only [intOf]; have := HCJ.out; omega⟩
                              · have r0 : ¬ (j : Int) < (R : Int) := by omega
                                have hR5 := HR4.out.below HB4.out
                                obtain ⟨X, hT, hX⟩ := hR5.tri
                                have hfb := lon_bst HH3.out hT.keys x.data.toList
                                rw [HND.out, HT.out] at hfb
                                have hbe : bst t rest [] = bb := by
                                  have := HBB.out
                                  rwa [List.take_of_length_le (by rw [HRL.out]; omega)] at this
                                rw [hbe] at hfb
                                have hxl : x.data.toList.length = x.size := by rw [Array.length_toList]; rfl
                                rw [hxl] at hfb
                                have pf := find_any _ X B L2 x hT C1.out
                                have hb4 := keepB hb HB4.out
                                have HR5 := hR5
                                replace HR5 : Hid (Row _ w2.heap.size B L2 (.slice orr R cr) rest) := HR5
                                clear hbe hxl hT hX HBB hR5 HPB hj hcj
                                rcases hfb with ⟨rfl, hl⟩ | ⟨hne, hl⟩
                                · replace pf := pf.mono fun e y h => (⟨by have := h.1; rw [FindPost, hl] at this; exact this, h.2⟩ : e = .returned (.tuple #[.string ⟨#[]⟩, .int .i64 0, .bool false]) ∧ _)
                                  clear hl
                                  go_wp2_with fail
                                  refine pf.mono ?_
                                  rintro e y ⟨rfl, k5⟩
                                  have hb5 := keepB hb4 k5
                                  have HR6 := HR5.out.below k5
                                  clear pf
                                  go_wp2_with fail
                                  exact ⟨⟨i + 1, by simp, HCI.out.1, HCI.out.2, HR6, hb5⟩, by simp only [intOf]; have := HCI.out.2; omega⟩
                                · replace pf := pf.mono fun e y h => (⟨by have := h.1; rw [FindPost, hl] at this; exact this, h.2⟩ : e = .returned (.tuple #[.string ((⟨#[97, 116, 32]⟩ : ByteArray) ++ sB bb), .int .i64 (bb.length : Int), .bool true]) ∧ _)
                                  have hem : bb.isEmpty = false := by cases bb with | nil => exact absurd rfl hne | cons => rfl
                                  have pl2 : ¬ 9223372036854775807 < 3 + bb.length := by omega
                                  clear hl hne hbb
                                  go_wp2_with fail
                                  refine pf.mono ?_
                                  rintro e y ⟨rfl, k5⟩
                                  have hb5 := keepB hb4 k5
                                  have HR6 := HR5.out.below k5
                                  clear pf
                                  go_wp2_with fail
                                  exact ⟨⟨i + 1, by simp, HCI.out.1, HCI.out.2, HR6, hb5⟩, by simp only [intOf]; have := HCI.out.2; omega⟩
                      · have t1 : ¬ (48 : Int) ≤ ((x[n]'hcn).toNat : Int) := by omega
                        as_aux_lemma =>
                          obtain ⟨t, HT⟩ : ∃ t, Hid (x.data.toList.take n = t) := ⟨_, rfl⟩
                          have hx : x.extract 0 n = sB t := by rw [← HT.out]; exact ext_take x n
                          have HTl : Hid (t.length ≤ 9223372036854775807) := by
                            show _ ≤ _
                            rw [← HT.out, List.length_take]
                            have : x.data.toList.length = x.size := by rw [Array.length_toList]; rfl
                            have := C1.out
                            unfold maxLen at this
                            omega
                          have HND : Hid (nD x.data.toList = n) := nD_uniq x n hn HAL.out (fun h => by have := isD_iff (x[n]'h); cases hq : isD (x[n]'h) with | false => rfl | true => exact absurd (this.1 hq).1 hd1)
                          have nI : (n : Int) ≤ (x.size : Int) := by omega
                          have n0 : (0 : Int) ≤ (n : Int) := by omega
                          have HPB : Hid (∀ (p : K) (y : World), p.length ≤ 19 → Calls Tryz.prog 28 #[.string (x.extract 0 n), sv p] y fun e w' => e = .returned (.bool (p.isPrefixOf t)) ∧ w' = y) := fun p y hp => by
                            rw [hx]
                            exact begins_any t p y HTl.out (by omega)
                          clear hd1 hn hx
                          go_wp2_with fail
                          go_loopw [22, 23, 24] (fun bv jv _ wr4 => ∃ (j : Nat) (bb : K), jv = .int .i64 (j : Int) ∧ j ≤ R ∧ bv = sv bb ∧ Hid (bst t (rest.take j) [] = bb) ∧ bb.length ≤ 19 ∧ Hid (Below wr.heap.size wr wr4)) (fun _ jv _ _ => R + 1 - (intOf jv).toNat)
                          case atStart => exact ⟨0, [], rfl, Nat.zero_le _, rfl, by show _ = _; simp [bst], by simp, Below.refl _ _⟩
                          case round =>
                            rename_i wr3 _ _ _ _
                            obtain ⟨j, bb, rfl, hj, rfl, HBB, hbb, HB4⟩ := hrel
                            by_cases hcj : j < R
                            · have r0 : (j : Int) < (R : Int) := by omega
                              have r1 : (0 : Int) ≤ (j : Int) := by omega
                              have r3 : (j : Int) + 1 ≤ 9223372036854775807 := by have := HRM.out; omega
                              have hjl : j < rest.length := by rw [HRL.out]; exact hcj
                              have hR5 := HR4.out.below HB4.out
                              obtain ⟨o5, c5, e5, hc5⟩ := hR5.cell
                              rw [HRL.out] at e5
                              cases e5
                              obtain ⟨g, rfl, cg⟩ := hc5 j hjl
                              obtain ⟨X, hT, hX⟩ := hR5.tri
                              have HU : Hid ((rest[j]'hjl).length ≤ 19) := by
                                have := hT.keys _ (look_mem (k := rest[j]'hjl) (v := atB (rest[j]'hjl)) (by rw [HH3.out.lk, if_pos (List.getElem_mem hjl)]))
                                simp only [okK, Bool.and_eq_true, decide_eq_true_eq] at this
                                exact this.2
                              have HS : Hid (bst t (rest.take (j + 1)) [] = (if (rest[j]'hjl).isPrefixOf t && decide (bb.length < (rest[j]'hjl).length) then rest[j]'hjl else bb)) := by
                                show _ = _
                                rw [List.take_succ_eq_append_getElem hjl, bst_snoc, HBB.out]
                              obtain ⟨u, hu⟩ : ∃ u, rest[j]'hjl = u := ⟨_, rfl⟩
                              rw [hu] at cg HU HS
                              have pb := fun y => HPB.out u y HU.out
                              have HCJ : Hid (j < R) := hcj
                              clear hu hjl hR5 hc5 hT hX hcj hj
                              cases hpf : u.isPrefixOf t with
                              | true =>
                                rw [hpf] at pb HS
                                by_cases hlt : bb.length < u.length
                                · have t1 : ((bb.length : Nat) : Int) < ((u.length : Nat) : Int) := by omega
                                  have HS2 : Hid (bst t (rest.take (j + 1)) [] = u) := by show _ = _; rw [HS.out]; simp [hlt]
                                  clear HS hpf
                                  go_wp2_with fail
                                  go_quiet ((go_at_call 28; exact Calls.quiet_of_same (pb _)))
                                  go_wp2_with fail
                                  exact ⟨⟨j + 1, u, by simp, HCJ.out, rfl, HS2, HU.out, below_drewN HB4.out _⟩, by simp only [intOf]; have := HCJ.out; omega⟩
                                · have t1 : ¬ ((bb.length : Nat) : Int) < ((u.length : Nat) : Int) := by omega
                                  have HS2 : Hid (bst t (rest.take (j + 1)) [] = bb) := by show _ = _; rw [HS.out]; simp [hlt]
                                  clear HS hpf
                                  go_wp2_with fail
                                  go_quiet ((go_at_call 28; exact Calls.quiet_of_same (pb _)))
                                  go_wp2_with fail
                                  exact ⟨⟨j + 1, bb, by simp, HCJ.out, rfl, HS2, hbb, below_drewN HB4.out _⟩, by simp only [intOf]; have := HCJ.out; omega⟩
                              | false =>
                                rw [hpf] at pb HS
                                have HS2 : Hid (bst t (rest.take (j + 1)) [] = bb) := by show _ = _; rw [HS.out]; simp
                                clear HS hpf
                                go_wp2_with fail
                                go_quiet ((go_at_call 28; exact Calls.quiet_of_same (pb _)))
                                go_wp2_with fail
                                exact ⟨⟨j + 1, bb, by simp, HCJ.out, rfl, HS2, hbb, below_drewN HB4.out _⟩, by simp only [intOf]; have := HCJ.out; omega⟩
                            · have r0 : ¬ (j : Int) < (R : Int) := by omega
                              have hR5 := HR4.out.below HB4.out
                              obtain ⟨X, hT, hX⟩ := hR5.tri
                              have hfb := lon_bst HH3.out hT.keys x.data.toList
                              rw [HND.out, HT.out] at hfb
                              have hbe : bst t rest [] = bb := by
                                have := HBB.out
                                rwa [List.take_of_length_le (by rw [HRL.out]; omega)] at this
                              rw [hbe] at hfb
                              have hxl : x.data.toList.length = x.size := by rw [Array.length_toList]; rfl
                              rw [hxl] at hfb
                              have pf := find_any _ X B L2 x hT C1.out
                              have hb4 := keepB hb HB4.out
                              have HR5 := hR5
                              replace HR5 : Hid (Row _ w2.heap.size B L2 (.slice orr R cr) rest) := HR5
                              clear hbe hxl hT hX HBB hR5 HPB hj hcj
                              rcases hfb with ⟨rfl, hl⟩ | ⟨hne, hl⟩
                              · replace pf := pf.mono fun e y h => (⟨by have := h.1; rw [FindPost, hl] at this; exact this, h.2⟩ : e = .returned (.tuple #[.string ⟨#[]⟩, .int .i64 0, .bool false]) ∧ _)
                                clear hl
                                go_wp2_with fail
                                refine pf.mono ?_
                                rintro e y ⟨rfl, k5⟩
                                have hb5 := keepB hb4 k5
                                have HR6 := HR5.out.below k5
                                clear pf
                                go_wp2_with fail
                                exact ⟨⟨i + 1, by simp, HCI.out.1, HCI.out.2, HR6, hb5⟩, by simp only [intOf]; have := HCI.out.2; omega⟩
                              · replace pf := pf.mono fun e y h => (⟨by have := h.1; rw [FindPost, hl] at this; exact this, h.2⟩ : e = .returned (.tuple #[.string ((⟨#[97, 116, 32]⟩ : ByteArray) ++ sB bb), .int .i64 (bb.length : Int), .bool true]) ∧ _)
                                have hem : bb.isEmpty = false := by cases bb with | nil => exact absurd rfl hne | cons => rfl
                                have pl2 : ¬ 9223372036854775807 < 3 + bb.length := by omega
                                clear hl hne hbb
                                go_wp2_with fail
                                refine pf.mono ?_
                                rintro e y ⟨rfl, k5⟩
                                have hb5 := keepB hb4 k5
                                have HR6 := HR5.out.below k5
                                clear pf
                                go_wp2_with fail
                                exact ⟨⟨i + 1, by simp, HCI.out.1, HCI.out.2, HR6, hb5⟩, by simp only [intOf]; have := HCI.out.2; omega⟩
                    · have s0 : ¬ (n : Int) < (x.size : Int) := by omega
                      as_aux_lemma =>
                        obtain ⟨t, HT⟩ : ∃ t, Hid (x.data.toList.take n = t) := ⟨_, rfl⟩
                        have hx : x.extract 0 n = sB t := by rw [← HT.out]; exact ext_take x n
                        have HTl : Hid (t.length ≤ 9223372036854775807) := by
                          show _ ≤ _
                          rw [← HT.out, List.length_take]
                          have : x.data.toList.length = x.size := by rw [Array.length_toList]; rfl
                          have := C1.out
                          unfold maxLen at this
                          omega
                        have HND : Hid (nD x.data.toList = n) := nD_uniq x n hn HAL.out (fun h => absurd h hcn)
                        have nI : (n : Int) ≤ (x.size : Int) := by omega
                        have n0 : (0 : Int) ≤ (n : Int) := by omega
                        have HPB : Hid (∀ (p : K) (y : World), p.length ≤ 19 → Calls Tryz.prog 28 #[.string (x.extract 0 n), sv p] y fun e w' => e = .returned (.bool (p.isPrefixOf t)) ∧ w' = y) := fun p y hp => by
                          rw [hx]
                          exact begins_any t p y HTl.out (by omega)
                        clear hn hcn hx
                        go_wp2_with fail
                        go_loopw [22, 23, 24] (fun bv jv _ wr4 => ∃ (j : Nat) (bb : K), jv = .int .i64 (j : Int) ∧ j ≤ R ∧ bv = sv bb ∧ Hid (bst t (rest.take j) [] = bb) ∧ bb.length ≤ 19 ∧ Hid (Below wr.heap.size wr wr4)) (fun _ jv _ _ => R + 1 - (intOf jv).toNat)
                        case atStart => exact ⟨0, [], rfl, Nat.zero_le _, rfl, by show _ = _; simp [bst], by simp, Below.refl _ _⟩
                        case round =>
                          rename_i wr3 _ _ _ _
                          obtain ⟨j, bb, rfl, hj, rfl, HBB, hbb, HB4⟩ := hrel
                          by_cases hcj : j < R
                          · have r0 : (j : Int) < (R : Int) := by omega
                            have r1 : (0 : Int) ≤ (j : Int) := by omega
                            have r3 : (j : Int) + 1 ≤ 9223372036854775807 := by have := HRM.out; omega
                            have hjl : j < rest.length := by rw [HRL.out]; exact hcj
                            have hR5 := HR4.out.below HB4.out
                            obtain ⟨o5, c5, e5, hc5⟩ := hR5.cell
                            rw [HRL.out] at e5
                            cases e5
                            obtain ⟨g, rfl, cg⟩ := hc5 j hjl
                            obtain ⟨X, hT, hX⟩ := hR5.tri
                            have HU : Hid ((rest[j]'hjl).length ≤ 19) := by
                              have := hT.keys _ (look_mem (k := rest[j]'hjl) (v := atB (rest[j]'hjl)) (by rw [HH3.out.lk, if_pos (List.getElem_mem hjl)]))
                              simp only [okK, Bool.and_eq_true, decide_eq_true_eq] at this
                              exact this.2
                            have HS : Hid (bst t (rest.take (j + 1)) [] = (if (rest[j]'hjl).isPrefixOf t && decide (bb.length < (rest[j]'hjl).length) then rest[j]'hjl else bb)) := by
                              show _ = _
                              rw [List.take_succ_eq_append_getElem hjl, bst_snoc, HBB.out]
                            obtain ⟨u, hu⟩ : ∃ u, rest[j]'hjl = u := ⟨_, rfl⟩
                            rw [hu] at cg HU HS
                            have pb := fun y => HPB.out u y HU.out
                            have HCJ : Hid (j < R) := hcj
                            clear hu hjl hR5 hc5 hT hX hcj hj
                            cases hpf : u.isPrefixOf t with
                            | true =>
                              rw [hpf] at pb HS
                              by_cases hlt : bb.length < u.length
                              · have t1 : ((bb.length : Nat) : Int) < ((u.length : Nat) : Int) := by omega
                                have HS2 : Hid (bst t (rest.take (j + 1)) [] = u) := by show _ = _; rw [HS.out]; simp [hlt]
                                clear HS hpf
                                go_wp2_with fail
                                go_quiet ((go_at_call 28; exact Calls.quiet_of_same (pb _)))
                                go_wp2_with fail
                                exact ⟨⟨j + 1, u, by simp, HCJ.out, rfl, HS2, HU.out, below_drewN HB4.out _⟩, by simp only [intOf]; have := HCJ.out; omega⟩
                              · have t1 : ¬ ((bb.length : Nat) : Int) < ((u.length : Nat) : Int) := by omega
                                have HS2 : Hid (bst t (rest.take (j + 1)) [] = bb) := by show _ = _; rw [HS.out]; simp [hlt]
                                clear HS hpf
                                go_wp2_with fail
                                go_quiet ((go_at_call 28; exact Calls.quiet_of_same (pb _)))
                                go_wp2_with fail
                                exact ⟨⟨j + 1, bb, by simp, HCJ.out, rfl, HS2, hbb, below_drewN HB4.out _⟩, by simp only [intOf]; have := HCJ.out; omega⟩
                            | false =>
                              rw [hpf] at pb HS
                              have HS2 : Hid (bst t (rest.take (j + 1)) [] = bb) := by show _ = _; rw [HS.out]; simp
                              clear HS hpf
                              go_wp2_with fail
                              go_quiet ((go_at_call 28; exact Calls.quiet_of_same (pb _)))
                              go_wp2_with fail
                              exact ⟨⟨j + 1, bb, by simp, HCJ.out, rfl, HS2, hbb, below_drewN HB4.out _⟩, by simp only [intOf]; have := HCJ.out; omega⟩
                          · have r0 : ¬ (j : Int) < (R : Int) := by omega
                            have hR5 := HR4.out.below HB4.out
                            obtain ⟨X, hT, hX⟩ := hR5.tri
                            have hfb := lon_bst HH3.out hT.keys x.data.toList
                            rw [HND.out, HT.out] at hfb
                            have hbe : bst t rest [] = bb := by
                              have := HBB.out
                              rwa [List.take_of_length_le (by rw [HRL.out]; omega)] at this
                            rw [hbe] at hfb
                            have hxl : x.data.toList.length = x.size := by rw [Array.length_toList]; rfl
                            rw [hxl] at hfb
                            have pf := find_any _ X B L2 x hT C1.out
                            have hb4 := keepB hb HB4.out
                            have HR5 := hR5
                            replace HR5 : Hid (Row _ w2.heap.size B L2 (.slice orr R cr) rest) := HR5
                            clear hbe hxl hT hX HBB hR5 HPB hj hcj
                            rcases hfb with ⟨rfl, hl⟩ | ⟨hne, hl⟩
                            · replace pf := pf.mono fun e y h => (⟨by have := h.1; rw [FindPost, hl] at this; exact this, h.2⟩ : e = .returned (.tuple #[.string ⟨#[]⟩, .int .i64 0, .bool false]) ∧ _)
                              clear hl
                              go_wp2_with fail
                              refine pf.mono ?_
                              rintro e y ⟨rfl, k5⟩
                              have hb5 := keepB hb4 k5
                              have HR6 := HR5.out.below k5
                              clear pf
                              go_wp2_with fail
                              exact ⟨⟨i + 1, by simp, HCI.out.1, HCI.out.2, HR6, hb5⟩, by simp only [intOf]; have := HCI.out.2; omega⟩
                            · replace pf := pf.mono fun e y h => (⟨by have := h.1; rw [FindPost, hl] at this; exact this, h.2⟩ : e = .returned (.tuple #[.string ((⟨#[97, 116, 32]⟩ : ByteArray) ++ sB bb), .int .i64 (bb.length : Int), .bool true]) ∧ _)
                              have hem : bb.isEmpty = false := by cases bb with | nil => exact absurd rfl hne | cons => rfl
                              have pl2 : ¬ 9223372036854775807 < 3 + bb.length := by omega
                              clear hl hne hbb
                              go_wp2_with fail
                              refine pf.mono ?_
                              rintro e y ⟨rfl, k5⟩
                              have hb5 := keepB hb4 k5
                              have HR6 := HR5.out.below k5
                              clear pf
                              go_wp2_with fail
                              exact ⟨⟨i + 1, by simp, HCI.out.1, HCI.out.2, HR6, hb5⟩, by simp only [intOf]; have := HCI.out.2; omega⟩
                · rcases (by omega : ¬ i < N2 ∨ (i < N2 ∧ ¬ i < 60)) with h | ⟨h, h'⟩
                  · have p0 : ¬ (i : Int) < (N2 : Int) := by omega
                    clear hci
                    go_wp2_with fail
                    go_ret
                    exact ⟨rfl, hb⟩
                  · have p0 : (i : Int) < (N2 : Int) := by omega
                    have p1 : ¬ (i : Int) < 60 := by omega
                    clear hci
                    go_wp2_with fail
                    go_ret
                    exact ⟨rfl, hb⟩
end Go.Proofs.YtheeicjoblkfnaaGreatDoor.Rg
