/- Frames: apart. -/
import Derived.Test.YtfoddooehanemaaEc
import Derived.Test.YtfoddooehanemaaQl
namespace Go.Proofs.Ytfoddooehanemaa.Ee
set_option linter.unusedVariables false
set_option linter.unusedSimpArgs false
open Go.RowKit Lib0 Kb Fa Fb Fc Fm Fe Ff Fg Fk Fu Fv Eb Ec
theorem infoLS : (Try.prog.info? 39).map (fun i => (i.zero, i.size, i.bytes)) = some (some (.slice none 0 0), 1, 24) := by kernel_rfl
theorem quo20 (k : Nat) : ((k : Nat) : Int).tdiv 20 = ((k / 20 : Nat) : Int) := by
  rw [Int.tdiv_eq_ediv_of_nonneg (by omega)]; omega
set_option maxRecDepth 100000 in
set_option maxHeartbeats 12800000 in
theorem apart_any {w : World} {B g0 : Nat} {bv : Value} {E : List En} (K : Bk w B g0 bv E) (hB : B ≤ w.heap.size) (hE : E.length ≤ 1048576) (hms : ∀ e ∈ E, e.2.2.length ≤ 8796093022) :
    Calls Try.prog 22 #[.pointer (some ⟨g0, 0, none⟩)] w fun e w' => e = .returned (.bool true) ∧ Fr (obs E) w w' := by
  have HK : Hid (Bk w B g0 bv E) := K
  have HMS : Hid (∀ e ∈ E, e.2.2.length ≤ 8796093022) := hms
  obtain ⟨ba, bc, hbv⟩ : ∃ ba bc, bv = .slice ba E.length bc := by
    rcases K.row.2 with ⟨h1, h2⟩ | ⟨g, cap, cur, h1, _⟩
    · exact ⟨none, 0, by rw [h2]; exact h1⟩
    · exact ⟨_, _, h1⟩
  subst hbv
  have hg0 : g0 < w.heap.size := (Array.getElem?_eq_some_iff.1 K.book).1
  obtain ⟨is, hi, hi0, hi1, hi2⟩ := info_parts infoStr
  obtain ⟨il, hj, hj0, hj1, hj2⟩ := info_parts infoLS
  have hEI : (E.length : Int) ≤ 1048576 := by omega
  clear K hms
  go_enter Try.func22, Try.ntmps22
  go_wp2_with fail
  go_loopw [3] (fun iv wr => ∃ k : Nat, iv = .int .i64 (k : Int) ∧ k ≤ E.length ∧ Below w.heap.size w wr) (fun iv _ => E.length + 1 - (intOf iv).toNat)
  case atStart => exact ⟨0, rfl, Nat.zero_le _, Below.refl _ _⟩
  case round =>
    obtain ⟨k, rfl, hk, hb⟩ := hrel
    have Kr := HK.out.below hb
    have c0 : wr.cell? ⟨g0, 0, none⟩ = some (.slice ba E.length bc) := by unfold World.cell?; rw [Kr.book]; rfl
    by_cases hc : k < E.length
    · have q0 : (k : Int) < (E.length : Int) := by omega
      have q1 : (0 : Int) ≤ (k : Int) := by omega
      obtain ⟨gB, rfl, c1, c2, hgB⟩ := row_cells Kr.row rfl k hc
      have hgr : g0 < wr.heap.size := Nat.lt_of_lt_of_le hg0 hb.size
      have SM : Hid (∀ x, Below wr.heap.size wr x → Calls Try.prog 31 #[E[k].1, E[k].2.1] x fun e w' => e = .returned (.bool true) ∧ Below wr.heap.size wr w') := fun x hx => by
        refine (same_eq (own_below (Kr.own _ (List.getElem_mem hc)) hx) (own_below (Kr.want _ (List.getElem_mem hc)) hx) (by have := HMS.out _ (List.getElem_mem hc); omega)).mono ?_
        rintro e y ⟨rfl, hy⟩
        exact ⟨rfl, Kb.keepB hx hy⟩
      have HB : Hid (Below w.heap.size w wr) := hb
      have HC : Hid (k < E.length) := hc
      generalize E[k].1 = lv at *
      generalize E[k].2.1 = wv at *
      clear Kr hb hc hk
      go_wp2_with fail
      go_region_held3 (fun x => x.cell? ⟨g0, 0, none⟩ = some (.slice (some ⟨gB, 0, none⟩) E.length bc) ∧ x.cell? ⟨gB, k * 2, none⟩ = some lv ∧ x.cell? ⟨gB, k * 2 + 1, none⟩ = some wv ∧ Below wr.heap.size wr x) (refine ⟨?_, ?_, ?_, ?_⟩ <;> first | assumption | exact (Below.refl _ _).drew | (go_keep; done))
        (first | (go_at_call 31; refine (SM.out _ (And.right (And.right (And.right (by assumption))))).mono ?_; rintro e y ⟨rfl, hy⟩; have y0 := (hy.cell (p := ⟨g0, 0, none⟩) hgr).trans c0; have y1 := (hy.cell (p := ⟨gB, k * 2, none⟩) hgB).trans c1; have y2 := (hy.cell (p := ⟨gB, k * 2 + 1, none⟩) hgB).trans c2))
      have HY : Hid (Below w.heap.size w y) := Kb.keepB HB.out hy
      clear hy y0 y1 y2 c0 c1 c2 SM
      go_wp2_with fail
      refine ⟨⟨k + 1, by simp, HC.out, HY.out⟩, ?_⟩
      simp only [intOf]
      have := HC.out
      omega
    · have q0 : ¬ (k : Int) < (E.length : Int) := by omega
      have HM0 : Hid (M2 w wr B g0 (.slice ba E.length bc) E 0 0) := M2.start HK.out hb
      clear Kr hb hk hc
      go_wp2_with fail
      clear c0 q0
      go_loopw [5] (fun iv wr => ∃ n : Nat, iv = .int .i64 (n : Int) ∧ n ≤ E.length ∧ M2 w wr B g0 (.slice ba E.length bc) E n 0) (fun iv _ => E.length + 1 - (intOf iv).toNat)
      case atStart => exact ⟨0, rfl, Nat.zero_le _, HM0.out⟩
      case round =>
        obtain ⟨n, rfl, hn, M⟩ := hrel
        clear HM0
        have c0 : wr.cell? ⟨g0, 0, none⟩ = some (.slice ba E.length bc) := by unfold World.cell?; rw [M.book]; rfl
        by_cases hc : n < E.length
        · have q0 : (n : Int) < (E.length : Int) := by omega
          have q1 : (0 : Int) ≤ (n : Int) := by omega
          have HM : Hid (M2 w wr B g0 (.slice ba E.length bc) E n 0) := M
          have HC : Hid (n < E.length) := hc
          clear M
          go_wp2_with fail
          clear c0
          go_loopw [6] (fun iv wr => ∃ i : Nat, iv = .int .i64 (i : Int) ∧ i ≤ E[n].2.2.length ∧ M2 w wr B g0 (.slice ba E.length bc) E n i) (fun iv _ => E[n].2.2.length + 1 - (intOf iv).toNat)
          case atStart => exact ⟨0, rfl, Nat.zero_le _, HM.out⟩
          case round =>
            obtain ⟨i, rfl, hil, M⟩ := hrel
            clear HM
            have c0 : wr.cell? ⟨g0, 0, none⟩ = some (.slice ba E.length bc) := by unfold World.cell?; rw [M.book]; rfl
            have hgr : g0 < wr.heap.size := (Array.getElem?_eq_some_iff.1 M.book).1
            obtain ⟨gB, rfl, c1, _, hgB⟩ := row_cells M.row rfl n HC.out
            obtain ⟨xs, ox, _, _⟩ := M.own n HC.out
            have hlen := HMS.out _ (List.getElem_mem HC.out)
            by_cases hi9 : i < E[n].2.2.length
            · obtain ⟨gl, lc, hlv, _⟩ := own_pos ox (by omega)
              rw [hlv] at c1
              have HOW : Hid (∀ y1, Below wr.heap.size wr y1 → ∃ xs1, y1.ownsRow B 9 1 (.slice (some ⟨gl, 0, none⟩) E[n].2.2.length lc) E[n].2.2.length xs1) := fun y1 hy => ⟨xs, hlv ▸ own_below ox hy⟩
              have HST : Hid (∀ y1, Below wr.heap.size wr y1 → M2 w (y1.setCell ⟨gl, i, none⟩ (str (mkL n))) B g0 (.slice (some ⟨gB, 0, none⟩) E.length bc) E n (i + 1)) := fun y1 hy => (M.below hy).store HK.out.sep hc hi9 hlv
              have HI : Hid (i < E[n].2.2.length) := hi9
              have q2 : (i : Int) < (E[n].2.2.length : Int) := by omega
              have q3 : (0 : Int) ≤ (i : Int) := by omega
              have q4 : (i : Int) ≤ 8796093022 := by omega
              have pm := fun x => mark_any n (by omega) x
              clear M ox hlv hi9 hil hc hn
              obtain ⟨mb, HMB⟩ : ∃ mb : ByteArray, Hid (str (mkL n) = .string mb) := ⟨_, rfl⟩
              rw [HMB.out] at pm HST
              generalize hle9 : E[n].2.2.length = len at *
              have HLE : Hid (E[n].2.2.length = len) := hle9
              clear hle9
              go_wp2_with fail
              refine Ql.region_lastL (C := Ql.Cl wr) (by kernel_rfl) rfl (by kernel_rfl) (by kernel_rfl) (by kernel_rfl) rfl ((Below.refl _ _).drew) ?_
              dsimp only [List.dropLast]
              repeat (first | go_big_quiet_skip | (go_big_quiet_want; go_big_quiet_op; first | go_big_quiet_on | (refine ⟨_, fun _ _ => rfl, ?_⟩; go_big_quiet_on) | (refine ⟨_, fun _ _ => ⟨rfl, rfl⟩, ?_⟩; go_big_quiet_on)) | (refine wpQuiet_step (fun K hK => ?_); first
                | (refine Ql.q_cell (by rfl) 32 _ rfl g0 0 rfl _ c0 hgr (fun y => Try.isAgg32 y) (hK _ ?_); clear hK K; simp only [Act.put, List.setIfInBounds_toArray, List.set_cons_succ, List.set_cons_zero])
                | (refine Ql.q_cell (by rfl) 39 _ rfl gB (n*2) rfl _ c1 hgB (fun y => Try.isAgg39 y) (hK _ ?_); clear hK K; simp only [Act.put, List.setIfInBounds_toArray, List.set_cons_succ, List.set_cons_zero])
                | (go_simp; apply Exists.intro; refine ⟨fun y hy => ?_, hK _ ?_⟩; (first | (go_at_call 40; exact Ql.cl_of hy (pm _))); clear hK K)
                | fail))
              refine wpQuiet_nil ?_
              intro y1 hy1
              obtain ⟨xs1, ox1⟩ := HOW.out y1 hy1
              have hxl : i < xs1.length := by rw [ox1.1]; have := HI.out; omega
              have k1 := own_cell ox1 i _ (List.getElem?_eq_getElem hxl)
              have k2 := own_froz ox1 i
              have HM3 : Hid (M2 w (y1.setCell ⟨gl, i, none⟩ (.string mb)) B g0 (.slice (some ⟨gB, 0, none⟩) E.length bc) E n (i + 1)) := HST.out y1 hy1
              generalize xs1[i] = old at *
              clear ox1 hxl hy1 c0 c1 HOW HST
              go_simp
              go_wp2_with fail
              refine ⟨⟨i + 1, by simp, by have := HI.out; omega, HM3.out⟩, ?_⟩
              simp only [intOf]
              have := HI.out
              omega
            · obtain ⟨la, lc, hlv, _⟩ := own_form ox
              rw [hlv] at c1
              have q2 : ¬ (i : Int) < (E[n].2.2.length : Int) := by omega
              have HM : Hid (M2 w wr B g0 (.slice (some ⟨gB, 0, none⟩) E.length bc) E (n + 1) 0) := M.next HC.out (by omega)
              clear M ox hlv
              go_wp2_with fail
              refine ⟨⟨n + 1, by simp, HC.out, HM.out⟩, ?_⟩
              simp only [intOf]
              have := HC.out
              omega
        · obtain rfl : n = E.length := by omega
          have q0 : ¬ (E.length : Int) < (E.length : Int) := by omega
          have HT0 : Hid (T3 w wr B g0 (.slice ba E.length bc) E 0 0 (.slice none 0 0) 0 [] (.slice none 0 0)) := T3.start M
          clear M hn hc
          go_wp2_with fail
          clear c0 q0
          go_loopw [7, 8] (fun av iv wr => ∃ (r : Nat) (L : List (Value × Nat)), iv = .int .i64 (r : Int) ∧ r ≤ E.length ∧ L.length = 20 * r ∧ T3 w wr B g0 (.slice ba E.length bc) E r 0 (.slice none 0 0) 0 L av) (fun _ iv _ => E.length + 1 - (intOf iv).toNat)
          case atStart => exact ⟨0, [], rfl, Nat.zero_le _, rfl, HT0.out⟩
          case round =>
            obtain ⟨r, L, rfl, hr, hL, T⟩ := hrel
            clear HT0
            have c0 : wr.cell? ⟨g0, 0, none⟩ = some (.slice ba E.length bc) := by unfold World.cell?; rw [T.book]; rfl
            by_cases hc : r < E.length
            · have q0 : (r : Int) < (E.length : Int) := by omega
              have q1 : (0 : Int) ≤ (r : Int) := by omega
              obtain ⟨gB, rfl, c1, _, hgB⟩ := row_cells T.row rfl r hc
              have hlen := HMS.out _ (List.getElem_mem hc)
              have HT1 : Hid (T3 w wr B g0 (.slice (some ⟨gB, 0, none⟩) E.length bc) E (r + 1) r E[r].1 E[r].2.2.length L u7) := T.take HK.out.sep hc
              have HC : Hid (r < E.length ∧ L.length = 20 * r ∧ E[r].2.2.length ≤ 8796093022) := ⟨hc, hL, hlen⟩
              generalize E[r].1 = lv at *
              generalize E[r].2.2.length = len at *
              clear T hr hL hlen
              go_wp2_with fail
              clear c0 c1 hgB
              go_loopw [7, 9, 10] (fun av xv iv wr => ∃ (i : Nat) (L2 : List (Value × Nat)), iv = .int .i64 (i : Int) ∧ i ≤ 20 ∧ L2.length = 20 * r + i ∧ T3 w wr B g0 (.slice (some ⟨gB, 0, none⟩) E.length bc) E (r + 1) r xv (len + i) L2 av) (fun _ _ iv _ => 21 - (intOf iv).toNat)
              case atStart => exact ⟨0, L, rfl, by omega, HC.out.2.1, HT1.out⟩
              case round =>
                obtain ⟨i, L2, rfl, hi20, hL2, T⟩ := hrel
                clear HT1
                by_cases hi9 : i < 20
                · have q2 : (i : Int) < 20 := by omega
                  obtain ⟨xa, xc, rfl, _⟩ := own_form T.xrow
                  have HT : Hid (T3 w wr B g0 (.slice (some ⟨gB, 0, none⟩) E.length bc) E (r + 1) r (.slice xa (len + i) xc) (len + i) L2 u7) := T
                  have HI : Hid (i < 20 ∧ L2.length = 20 * r + i) := ⟨hi9, hL2⟩
                  have HLL : Hid (L2.length + 1 ≤ 20971540) := by have := HC.out; show _ ≤ _; omega
                  have HSZ : Hid (w.heap.size ≤ wr.heap.size) := T.fr.size
                  have pm := fun x => mark_any r (by have := HC.out; omega) x
                  obtain ⟨mb, HMB⟩ : ∃ mb : ByteArray, Hid (str (mkL r) = .string mb) := ⟨_, rfl⟩
                  rw [HMB.out] at pm
                  clear T hi9 hi20 hL2
                  go_wp2_with (at_builtin; refine wpList_append_lies _ rfl _ _ _ rfl w.heap.size 39 il _ 1 24 Try.underlying52 hj hj0 hj1 hj2 rfl (by omega) u7 L2.length (L2.map (·.1)) rfl (own_below HT.out.arow (Kb.below_one wr _)) ⟨wr.heap.size, 0, none⟩ 1 1 [.slice xa (len + i) xc] rfl rfl (new_cell1 wr _ 39) (by intro x hx; rw [List.mem_singleton.1 hx]; rfl) (by omega) (by have := HLL.out; unfold maxLen; omega) (by have := HLL.out; omega) (by have := HSZ.out; simp; omega) _ rfl ?_; intro ga ca y2 own2 gr2 at2 lt2)
                  have T2 := HT.out.push own2 gr2 (by have := HI.out; omega)
                  have HT2 : Hid (T3 w y2 B g0 (.slice (some ⟨gB, 0, none⟩) E.length bc) E (r + 1) r (.slice xa (len + i) xc) (len + i) (L2 ++ [(.slice xa (len + i) xc, r)]) (.slice (some ⟨ga, 0, none⟩) (L2.length + 1) ca)) := T2
                  clear T2 own2 gr2 at2 lt2 HT HSZ
                  refine (pm _).mono ?_
                  rintro e y3 ⟨rfl, hb3⟩
                  have HT3 : Hid (T3 w y3 B g0 (.slice (some ⟨gB, 0, none⟩) E.length bc) E (r + 1) r (.slice xa (len + i) xc) (len + i) (L2 ++ [(.slice xa (len + i) xc, r)]) (.slice (some ⟨ga, 0, none⟩) (L2.length + 1) ca)) := HT2.out.below hb3
                  have HSZ3 : Hid (B ≤ y3.heap.size) := Nat.le_trans hB HT3.out.fr.size
                  have HXR : Hid (y3.ownsRow B 9 1 (.slice xa (len + i) xc) (len + i) (List.replicate (len + i) (str (mkL r)))) := HT3.out.xrow
                  have HLN : Hid (len + i + 1 ≤ 8796093100) := by have := HC.out; have := HI.out; show _ ≤ _; omega
                  clear hb3 HT2
                  go_wp2_with (at_builtin; refine wpList_append_keeps _ rfl _ _ _ rfl B 9 is _ 1 16 Try.underlying39 hi hi0 hi1 hi2 rfl (by omega) (.slice xa (len + i) xc) (len + i) (List.replicate (len + i) (str (mkL r))) rfl (own_below HXR.out (Kb.below_one y3 _)) ⟨y3.heap.size, 0, none⟩ 1 1 [.string mb] rfl rfl (new_cell1 y3 _ 9) (by intro x hx; rw [List.mem_singleton.1 hx]; rfl) (by omega) (by have := HLN.out; unfold maxLen; omega) (by have := HLN.out; omega) (by have := HSZ3.out; simp; omega) _ rfl ?_; intro g4 c4 y4 own4 kp4 gr4 at4 lt4)
                  have T4 := HT3.out.grow (by rw [HMB.out] at own4 ⊢; exact own4) kp4 gr4 at4
                  refine ⟨⟨i + 1, L2 ++ [(.slice xa (len + i) xc, r)], by simp, by have := HI.out; omega, by rw [List.length_append]; have := HI.out; simp; omega, T4⟩, ?_⟩
                  simp only [intOf]
                  have := HI.out
                  omega
                · obtain rfl : i = 20 := by omega
                  have q2 : ¬ (20 : Int) < 20 := by omega
                  have HT : Hid (T3 w wr B g0 (.slice (some ⟨gB, 0, none⟩) E.length bc) E (r + 1) 0 (.slice none 0 0) 0 L2 u7) := T.drop
                  have HL2 : Hid (L2.length = 20 * (r + 1)) := by show _ = _; omega
                  clear T hL2
                  go_wp2_with fail
                  refine ⟨⟨r + 1, L2, by simp, HC.out.1, HL2.out, HT.out⟩, ?_⟩
                  simp only [intOf]
                  have := HC.out
                  omega
            · obtain rfl : r = E.length := by omega
              have q0 : ¬ (E.length : Int) < (E.length : Int) := by omega
              obtain ⟨va, vc, hva, hvc⟩ : ∃ va vc, u7 = .slice va L.length vc ∧ True := by
                rcases T.arow.2 with ⟨h1, h2⟩ | ⟨g, cap, cur, h1, _⟩
                · exact ⟨none, 0, by rw [h2]; exact h1, trivial⟩
                · exact ⟨_, _, h1, trivial⟩
              subst hva
              have HT : Hid (T3 w wr B g0 (.slice ba E.length bc) E E.length 0 (.slice none 0 0) 0 L (.slice va L.length vc)) := T
              have HLL : Hid (L.length ≤ 20971520) := by show _ ≤ _; omega
              have hLI : (L.length : Int) ≤ 20971520 := by omega
              clear T hr hc hL hvc
              go_wp2_with fail
              clear c0 q0
              obtain ⟨yT, hyT⟩ : ∃ yT, wr = yT := ⟨_, rfl⟩
              rw [hyT] at HT
              go_loopw [11] (fun iv wr => ∃ k : Nat, iv = .int .i64 (k : Int) ∧ k ≤ L.length ∧ Below yT.heap.size yT wr) (fun iv _ => L.length + 1 - (intOf iv).toNat)
              case atStart => exact ⟨0, rfl, Nat.zero_le _, by rw [hyT]; exact Below.refl _ _⟩
              case round =>
                obtain ⟨kk, rfl, hkk, hb⟩ := hrel
                by_cases hc : kk < L.length
                · have q0 : (kk : Int) < (L.length : Int) := by omega
                  have q1 : (0 : Int) ≤ (kk : Int) := by omega
                  have HB : Hid (Below yT.heap.size yT wr) := hb
                  have HC : Hid (kk < L.length) := hc
                  have ar := HT.out.arow
                  have hmp : kk < (L.map (·.1)).length := by simpa using hc
                  obtain ⟨ga, rfl, ca, hga⟩ : ∃ ga, va = some ⟨ga, 0, none⟩ ∧ yT.cell? ⟨ga, kk, none⟩ = some L[kk].1 ∧ ga < yT.heap.size := by
                    rcases ar.2 with ⟨h1, h2⟩ | ⟨g, cap, cur, h1, _, h3, _⟩
                    · omega
                    · injection h1 with h1 _ h4
                      subst h1 h4
                      refine ⟨g, rfl, ?_, (Array.getElem?_eq_some_iff.1 h3).1⟩
                      have e1 : (⟨g, 0, none⟩ : Addr).add kk = ⟨g, kk, none⟩ := by unfold Addr.add; split <;> simp_all
                      rw [← e1]
                      exact ar.cells rfl kk _ (by rw [List.getElem?_map, List.getElem?_eq_getElem hc]; rfl)
                  have er := HT.out.ent _ (List.getElem_mem hc)
                  rw [HT.out.idx kk hc] at er
                  generalize L[kk].1 = lv at *
                  obtain ⟨len, hlen⟩ : ∃ len, ln lv = len := ⟨_, rfl⟩
                  rw [hlen] at er
                  obtain ⟨la, lc, rfl, _⟩ := own_form er
                  have HER : Hid (yT.ownsRow B 9 1 (.slice la len lc) len (List.replicate len (str (mkL (kk / 20))))) := er
                  clear hb ar hmp hlen er hkk
                  go_wp2_with fail
                  go_loopw [12] (fun iv wr => ∃ i : Nat, iv = .int .i64 (i : Int) ∧ i ≤ len ∧ Below yT.heap.size yT wr) (fun iv _ => len + 1 - (intOf iv).toNat)
                  case atStart => exact ⟨0, rfl, Nat.zero_le _, HB.out⟩
                  case round =>
                    obtain ⟨i, rfl, hil, hb⟩ := hrel
                    have d1 := (hb.cell (p := ⟨ga, kk, none⟩) hga).trans ca
                    by_cases hi9 : i < len
                    · have q2 : (i : Int) < (len : Int) := by omega
                      have q3 : (0 : Int) ≤ (i : Int) := by omega
                      obtain ⟨gl, lc2, hlv, _⟩ := own_pos HER.out (by omega)
                      injection hlv with hla _ hlc
                      subst hla hlc
                      obtain ⟨mb, HMB⟩ : ∃ mb : ByteArray, Hid (str (mkL (kk / 20)) = .string mb) := ⟨_, rfl⟩
                      have c2 := own_cell HER.out i (str (mkL (kk / 20))) (by rw [List.getElem?_replicate, if_pos hi9])
                      rw [HMB.out] at c2
                      have hgl : gl < yT.heap.size := (own_lo HER.out gl rfl).2
                      have d2 := (hb.cell (p := ⟨gl, i, none⟩) hgl).trans c2
                      have hgx : ga < wr.heap.size ∧ gl < wr.heap.size := ⟨Nat.lt_of_lt_of_le hga hb.size, Nat.lt_of_lt_of_le hgl hb.size⟩
                      have pm : Hid (∀ (z : Int) x, z = ((kk / 20 : Nat) : Int) → Calls Try.prog 40 #[.int .i64 z] x fun e w' => e = .returned (.string mb) ∧ Below x.heap.size x w') := fun z x hz => by
                        subst hz
                        rw [← HMB.out]
                        exact mark_any (kk / 20) (by have := HLL.out; omega) x
                      have hkI : (kk : Int) ≤ 20971520 := by have := HLL.out; omega
                      have HBX : Hid (Below yT.heap.size yT wr) := hb
                      have HI : Hid (i < len) := hi9
                      have q4 : (i : Int) + 1 ≤ 9223372036854775807 := by
                        have := HER.out.2
                        rcases this with ⟨h, _⟩ | ⟨_, cap, _, h, _, _, h1, h2, _⟩
                        · cases h
                        · unfold maxLen at h2; omega
                      clear hb c2 hil hi9 hc
                      go_wp2_with fail
                      go_region_held3 (fun x => x.cell? ⟨ga, kk, none⟩ = some (.slice (some ⟨gl, 0, none⟩) len lc) ∧ x.cell? ⟨gl, i, none⟩ = some (.string mb) ∧ Below wr.heap.size wr x) (refine ⟨?_, ?_, ?_⟩ <;> first | assumption | exact (Below.refl _ _).drew | (go_keep; done))
                        (first | (go_at_call 40; refine (pm.out _ _ (by first | rfl | omega | (rw [IntKind.wrap_i64, quo20]; omega) | (rw [quo20, IntKind.wrap_i64]; omega) | (simp; rw [IntKind.wrap_i64]; omega))).mono ?_; rintro e y ⟨rfl, hy0⟩; have hS := And.right (And.right (by assumption)); have hy := Kb.keepB hS hy0; clear hS hy0; have y1 := (hy.cell (p := ⟨ga, kk, none⟩) hgx.1).trans d1; have y2 := (hy.cell (p := ⟨gl, i, none⟩) hgx.2).trans d2))
                      have HY : Hid (Below yT.heap.size yT y) := Kb.keepB HBX.out hy
                      clear hy y1 y2 d1 d2
                      go_wp2_with fail
                      refine ⟨⟨i + 1, by simp, HI.out, HY.out⟩, ?_⟩
                      simp only [intOf]
                      have := HI.out
                      omega
                    · have q2 : ¬ (i : Int) < (len : Int) := by omega
                      have HBX : Hid (Below yT.heap.size yT wr) := hb
                      clear hb
                      go_wp2_with fail
                      refine ⟨⟨kk + 1, by simp, HC.out, HBX.out⟩, ?_⟩
                      simp only [intOf]
                      have := HC.out
                      omega
                · have q0 : ¬ (kk : Int) < (L.length : Int) := by omega
                  have HBX : Hid (Below yT.heap.size yT wr) := hb
                  clear hb
                  go_wp2_with fail
                  go_ret
                  exact ⟨rfl, HT.out.fr.trans (Fr.of HBX.out)⟩
end Go.Proofs.Ytfoddooehanemaa.Ee
