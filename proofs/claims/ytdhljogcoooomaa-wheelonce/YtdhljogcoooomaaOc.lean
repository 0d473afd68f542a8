/- WheelOnce: comes' walk. -/
import Derived.Test.YtdhljogcoooomaaOm
namespace Go.Proofs.Ytdhljogcoooomaa.Oc
set_option linter.unusedVariables false
set_option linter.unusedSimpArgs false
open Go.RowKit Go.Maps Lib0 Kb Xp Oq Il Dl El Fl Gl Hl Kl Jl Ml Tl Cl Om
attribute [local go_sem] Oper.semAt_some
def ComesPost (w : World) (b : Nat) (B : Nat → Prop) (n : Nat) (due : List Int) (dn : List Bool) (th : Nat → Value) (now last : Int) (vdn : Value) (w' : World) : Prop :=
  ∃ dn' B', dn'.length = dn.length ∧ (∀ k, k < due.length → dn'.getD k true = (dn.getD k true || due.getD k 0 == now + 1)) ∧ Wl w' b B' n (Lof due dn' th) (now + 1) last ∧ Dn w' vdn dn' ∧ FrP (fun g => B g ∨ vdn.ownBlock = some g) w w' ∧ ∀ g, B' g → B g ∨ w.heap.size ≤ g
theorem getD_at {l : List Bool} {k : Nat} (h : k < l.length) : l.getD k true = l[k] := by simp [h]
theorem getD_ati {l : List Int} {k : Nat} (h : k < l.length) : l.getD k 0 = l[k] := by simp [h]
set_option maxRecDepth 100000 in
set_option maxHeartbeats 6400000 in
theorem comes_any (w : World) (b : Nat) (B : Nat → Prop) (n : Nat) (due : List Int) (dn : List Bool) (th : Nat → Value) (now last : Int) (vdu vdn : Value) (h : Wl w b B n (Lof due dn th) now last) (ok : Ok n (Lof due dn th) now last) (hdu : Du w vdu due) (hdn : Dn w vdn dn) (hlen : dn.length = due.length) (hth : Thg w th due.length) (hl : due.length ≤ 50) (hnow : now + 1 ≤ 1000000000) (hlast : last ≤ 50) (hdb : ∀ k, k < due.length → 0 ≤ due.getD k 0 ∧ due.getD k 0 ≤ 10000000000) :
    Calls Try.prog 27 #[.pointer (some ⟨b, 0, none⟩), vdu, vdn] w fun e w' => e = .returned (.bool true) ∧ ComesPost w b B n due dn th now last vdn w' := by
  obtain ⟨N, HN⟩ : ∃ N, Hid (due.length = N) := ⟨_, rfl⟩
  have HND : Hid (dn.length = N) := hlen.trans HN.out
  obtain ⟨ou, cu, rfl, hu1, hu2, hu3⟩ := own_form hdu
  obtain ⟨od, cd, rfl, hd1, hd2, hd3⟩ := own_form hdn
  have HDU : Hid (Du w (.slice ou due.length cu) due) := hdu
  have HDN : Hid (Dn w (.slice od dn.length cd) dn) := hdn
  rw [HN.out] at HDU hl
  rw [HND.out] at HDN
  rw [HN.out, HND.out]
  have HW : Hid (Wl w b B n (Lof due dn th) now last) := h
  have HOK : Hid (Ok n (Lof due dn th) now last) := ok
  have HTH : Hid (Thg w th N) := HN.out ▸ hth
  have HDB : Hid (∀ k, k < N → 0 ≤ due.getD k 0 ∧ due.getD k 0 ≤ 10000000000) := HN.out ▸ hdb
  have n0 := ok.now0
  clear h ok hdu hdn hlen hth hdb hu1 hu2 hu3 hd1 hd2 hd3
  go_enter Try.func27, Try.ntmps27
  go_wp2_with fail
  go_loopw [7, 8, 9, 10] (fun wv iv _ _ wr => ∃ i : Nat, iv = .int .i64 (i : Int) ∧ wv = .int .i64 ((cntW dn i : Nat) : Int) ∧ i ≤ N ∧ Hid (Below w.heap.size w wr)) (fun _ iv _ _ _ => N + 1 - (intOf iv).toNat)
  case atStart => exact ⟨0, rfl, rfl, Nat.zero_le _, Below.refl _ _⟩
  case round =>
    obtain ⟨i, rfl, rfl, hi, HB⟩ := hrel
    have hcw := cntW_le dn i
    by_cases hlt : i < N
    · obtain ⟨gu, cu', uu, eu, xu, c0, f0⟩ := row_at (own_below HDU.out HB.out) i (by rw [HN.out]; exact hlt)
      obtain ⟨gd, cd', ud, ed, xd, c1, f1⟩ := row_at (own_below HDN.out HB.out) i (by rw [HND.out]; exact hlt)
      injection eu with eu1 eu2 eu3
      injection ed with ed1 ed2 ed3
      subst eu1
      subst ed1
      have hiu : i < due.length := by rw [HN.out]; exact hlt
      have hid : i < dn.length := by rw [HND.out]; exact hlt
      have e1 : uu = .int .i64 (due.getD i 0) := by
        rw [List.getElem?_map, List.getElem?_eq_getElem hiu] at xu
        rw [getD_ati hiu]; simpa using xu.symm
      have e2 : ud = .bool (dn.getD i true) := by
        rw [List.getElem?_map, List.getElem?_eq_getElem hid] at xd
        rw [getD_at hid]; simpa using xd.symm
      rw [e1] at c0
      rw [e2] at c1
      have q0 : (i : Int) < (N : Int) := by omega
      have q1 : (0 : Int) ≤ (i : Int) := by omega
      have q3 : (i : Int) + 1 ≤ 9223372036854775807 := by omega
      have hlf := left_any wr b B n _ now last ((i : Int) + 1) (HW.out.below HB.out) HOK.out (wf64 (by omega) (by omega))
      have hnw : ∀ m, Calls Try.prog 26 #[.pointer (some ⟨b, 0, none⟩)] (wr.drewN m) fun e w' => e = .returned (.int .i64 now) ∧ w' = wr.drewN m := fun m => now_any (wr.drewN m) b B n _ now last (HW.out.below (Kb.below_drewN HB.out m))
      have hdb := HDB.out i hlt
      have HCS : Hid (cntW dn (i + 1) = cntW dn i + if dn.getD i true = true then 0 else 1) := cntW_succ dn i
      have hlk := lof_lk (due := due) (dn := dn) (th := th) hiu
      obtain ⟨d, HD⟩ : ∃ d, Hid (due.getD i 0 = d) := ⟨_, rfl⟩
      obtain ⟨bd, HBD⟩ : ∃ bd, Hid (dn.getD i true = bd) := ⟨_, rfl⟩
      obtain ⟨cw, HCW⟩ : ∃ cw, Hid (cntW dn i = cw) := ⟨_, rfl⟩
      rw [HBD.out] at c1 HCS hlk
      rw [HD.out] at c0 hdb
      rw [HCW.out] at hcw HCS ⊢
      have q4 : (cw : Int) + 1 ≤ 9223372036854775807 := by omega
      cases bd
      · have e3 : lfN (Lof due dn th) now ((i : Int) + 1) = d - now ∧ lfE (Lof due dn th) ((i : Int) + 1) = 0 := by
          rw [lfN, lfE, hlk, if_neg (by simp)]
          exact ⟨by show due.getD i 0 - now = d - now; rw [HD.out], rfl⟩
        rw [e3.1, e3.2] at hlf
        have q5 : d - now ≤ 9223372036854775807 := by omega
        have q6 : -9223372036854775808 ≤ d - now := by omega
        have q7 : IntKind.i64.wrap (d - now) = d - now := by rw [IntKind.wrap_i64]; omega
        clear hlk e1 e2 xu xd hiu hid f0 f1 hdb eu2 eu3 ed2 ed3 e3
        go_wp2_with fail
        refine hlf.mono ?_
        rintro e w2 ⟨rfl, rfl⟩
        go_wp2_with fail
        go_quiet ((go_at_call 26; exact Calls.quiet_of_same (hnw _)))
        go_wp2_with fail
        refine ⟨⟨i + 1, by simp, ?_, by omega, Kb.below_drewN HB.out _⟩, ?_⟩
        · rw [HCS.out]; simp
        · simp only [intOf]; omega
      · have e3 : lfN (Lof due dn th) now ((i : Int) + 1) = 0 ∧ lfE (Lof due dn th) ((i : Int) + 1) = 170 := by
          rw [lfN, lfE, hlk, if_pos rfl]
          exact ⟨rfl, rfl⟩
        rw [e3.1, e3.2] at hlf
        clear hlk e1 e2 xu xd hiu hid f0 f1 hdb eu2 eu3 ed2 ed3 e3
        go_wp2_with fail
        refine hlf.mono ?_
        rintro e w2 ⟨rfl, rfl⟩
        go_wp2_with fail
        go_quiet ((go_at_call 26; exact Calls.quiet_of_same (hnw _)))
        go_wp2_with fail
        refine ⟨⟨i + 1, by simp, ?_, by omega, Kb.below_drewN HB.out _⟩, ?_⟩
        · rw [HCS.out]; simp
        · simp only [intOf]; omega
    · obtain rfl : i = N := by omega
      have hln := len_any wr b B n _ now last (HW.out.below HB.out)
      rw [lof_len, HN.out] at hln
      have htk := tick_any wr b B n _ now last (HW.out.below HB.out) HOK.out (by omega) (by omega)
      rw [lof_out] at htk
      obtain ⟨cw, HCW⟩ : ∃ cw, Hid (cntW dn i = cw) := ⟨_, rfl⟩
      rw [HCW.out] at hln hcw ⊢
      obtain ⟨Q, HQ⟩ : ∃ Q, Hid (outQ due dn (now + 1) = Q) := ⟨_, rfl⟩
      rw [HQ.out] at htk
      have q2 : ¬ (i : Int) < (i : Int) := by omega
      clear hi
      go_wp2_with fail
      refine hln.mono ?_
      rintro e w2 ⟨rfl, rfl⟩
      clear hln
      go_wp2_with fail
      refine htk.mono ?_
      rintro e w5 ⟨vl, rfl, ho, B', hW5, hF5, hB5⟩
      clear htk
      obtain ⟨K, HK⟩ : ∃ K, Hid (Q.length = K) := ⟨_, rfl⟩
      rw [List.length_map, HK.out] at ho
      obtain ⟨ol, cl, rfl, hl1, hl2, hl3⟩ := own_form ho
      have HL : Hid (w5.ownsRow w2.heap.size tT 1 (.slice ol K cl) K (Q.map th)) := by
        show w5.ownsRow w2.heap.size tT 1 (.slice ol K cl) K (Q.map th)
        rw [thgs, List.map_map] at ho
        exact ho
      have HW5 : Hid (Wl w5 b B' n ((Lof due dn th).filter fun x => !(x.2.1 == now + 1)) (now + 1) last) := hW5
      have HF5 : Hid (FrP B w2 w5) := hF5
      have HB5 : Hid (∀ g, B' g → B g ∨ w2.heap.size ≤ g) := hB5
      have HFW : Hid (FrP B w w5) := (FrP.of HB.out).trans hF5 (fun g h => .inl h)
      have HKI : Hid (∀ (g : Nat) (c : Array Value) t, t = tI ∨ t = tB → w.heap[g]? = some (Obj.cells c t (0, 0)) → w5.heap[g]? = w.heap[g]?) := fun g c t ht hg => by
        refine HFW.out.block g (Array.getElem?_eq_some_iff.1 hg).1 (wl_kind HW.out hg ?_)
        rcases ht with rfl | rfl <;> decide
      have HD5 : Hid (Dn w5 (.slice od i cd) dn) := own_keep HDN.out fun g hg => by
        obtain ⟨c, hc⟩ := own_ty HDN.out hg
        exact HKI.out g c _ (.inr rfl) hc
      have HQL : Hid (∀ k ∈ Q, k < i ∧ dn.getD k true = false ∧ due.getD k 0 = now + 1) := fun k hk => by
        rw [← HQ.out] at hk
        have := outQ_mem.1 hk
        rw [HN.out] at this
        exact this
      have HQI : Hid (Q.Pairwise (· < ·)) := HQ.out ▸ outQ_inc due dn (now + 1)
      have HKN : Hid (K ≤ i) := by
        have h1 : (outQ due dn (now + 1)).length ≤ (List.range due.length).length := List.length_filter_le _ _
        rw [List.length_range, HQ.out, HK.out, HN.out] at h1
        exact h1
      have hKN := HKN.out
      clear hW5 hF5 hB5 ho hl1 hl2 hl3
      go_wp2_with fail
      go_loopw [12, 13] (fun lv kv wr2 => ∃ (m : Nat) (ls : Int) (dm : List Bool), kv = .int .i64 (m : Int) ∧ lv = .int .i64 ls ∧ m ≤ K ∧ -1 ≤ ls ∧ ls ≤ 100 ∧ Hid (∀ j (h : j < Q.length), m ≤ j → ls < (Q[j] : Int)) ∧ Hid (Dm dn Q m dm) ∧ Hid (Dn wr2 (.slice od i cd) dm) ∧ Hid (FrP (fun g => (Value.slice od i cd).ownBlock = some g) w5 wr2)) (fun _ kv _ => K + 1 - (intOf kv).toNat)
      case atStart => exact ⟨0, -1, dn, rfl, rfl, Nat.zero_le _, by decide, by decide, fun j h _ => by omega, Dm.start _ _, HD5.out, FrP.refl _ _⟩
      case round =>
        obtain ⟨m, ls, dm, rfl, rfl, hm, hls, hls2, HLS, HDm, HDnr, HFr⟩ := hrel
        have HDT : Hid (∀ g, (Value.slice od i cd).ownBlock = some g → g < w.heap.size ∧ ∃ c, w.heap[g]? = some (Obj.cells c tB (0, 0)) ∧ w5.heap[g]? = some (Obj.cells c tB (0, 0))) := fun g hg => by
          obtain ⟨c, hc⟩ := own_ty HDN.out hg
          exact ⟨(Array.getElem?_eq_some_iff.1 hc).1, c, hc, (HKI.out g c _ (.inr rfl) hc).trans hc⟩
        have HKR : Hid (∀ (g : Nat) (c : Array Value), w.heap[g]? = some (Obj.cells c tI (0, 0)) → wr.heap[g]? = w.heap[g]?) := fun g c hg => by
          have h5 := (HKI.out g c _ (.inl rfl) hg)
          refine (HFr.out.block g ?_ (fun e => ?_)).trans h5
          · exact (Array.getElem?_eq_some_iff.1 (h5.trans hg)).1
          · obtain ⟨_, c', hc', _⟩ := HDT.out g e
            exact ty_ne hg hc' (by decide) rfl
        have HWR : Hid (Wl wr b B' n ((Lof due dn th).filter fun x => !(x.2.1 == now + 1)) (now + 1) last) := HW5.out.keep fun g hg => HFr.out.block g (HW5.out.lt g hg) (fun e => by
          obtain ⟨_, c', _, hc'⟩ := HDT.out g e
          exact wl_kind HW5.out hc' (by decide) hg)
        have hnw : ∀ m, Calls Try.prog 26 #[.pointer (some ⟨b, 0, none⟩)] (wr.drewN m) fun e w' => e = .returned (.int .i64 (now + 1)) ∧ w' = wr.drewN m := fun m => now_any (wr.drewN m) b B' n _ (now + 1) last (HWR.out.below (Kb.below_drewN (Below.refl _ _) m))
        by_cases hlt2 : m < K
        · have hmq : m < Q.length := by rw [HK.out]; exact hlt2
          have HMQ : Hid (m < Q.length) := hmq
          obtain ⟨x, HX⟩ : ∃ x : Nat, Hid (∀ h : m < Q.length, Q[m]'h = x) := ⟨Q[m]'hmq, fun _ => rfl⟩
          have hx := HQL.out _ (List.getElem_mem hmq)
          have hfree := HDm.out.free hmq HQI.out (HQL.out _ (List.getElem_mem hmq)).2.1
          have hls3 := HLS.out m hmq (Nat.le_refl _)
          rw [HX.out hmq] at hx hfree hls3
          obtain ⟨hx1, hx2, hx3⟩ := hx
          -- the list that came
          have hlr : wr.ownsRow w2.heap.size tT 1 (.slice ol K cl) K (Q.map th) := own_keep HL.out fun g hg => by
            refine HFr.out.block g (HL.out.lt g hg).2 (fun e => ?_)
            have h1 := (HL.out.lt g hg).1
            have h2 := (HDT.out g e).1
            have h3 := HB.out.size
            omega
          obtain ⟨gl, cl', ul, el1, xl, l0, fl⟩ := row_at hlr m hlt2
          injection el1 with el2 el3 el4
          subst el2
          rw [List.getElem?_map, List.getElem?_eq_getElem hmq, HX.out hmq] at xl
          obtain ⟨bk, cp, tb, hbk⟩ := HTH.out x hx1
          have e4 : ul = .slice (some ⟨bk, 0, none⟩) 1 cp := by rw [← tb]; simpa using xl.symm
          rw [e4] at l0
          have hbr := (HKR.out bk _ hbk).trans hbk
          have t0 : wr.cell? ⟨bk, 0, none⟩ = some (.int .i64 (x : Int)) := by simp [World.cell?, hbr]
          -- what is due
          have hdur : Du wr (.slice ou i cu) due := own_keep HDU.out fun g hg => by
            obtain ⟨c, hc⟩ := own_ty HDU.out hg
            exact HKR.out g c hc
          obtain ⟨gu, cu', uu, eu, xu, c0, f0⟩ := row_at hdur x (by rw [HN.out]; exact hx1)
          injection eu with eu1 eu2 eu3
          subst eu1
          have e1 : uu = .int .i64 (now + 1) := by
            have hiu : x < due.length := by rw [HN.out]; exact hx1
            rw [List.getElem?_map, List.getElem?_eq_getElem hiu] at xu
            rw [← hx3, getD_ati hiu]; simpa using xu.symm
          rw [e1] at c0
          -- what is done
          have hdl : dm.length = i := HDm.out.len.trans HND.out
          obtain ⟨gd, cd', ud, ed, xd, c1, f1⟩ := row_at HDnr.out x (by rw [hdl]; exact hx1)
          injection ed with ed1 ed2 ed3
          subst ed1
          have e2 : ud = .bool false := by
            have hid : x < dm.length := by rw [hdl]; exact hx1
            rw [List.getElem?_map, List.getElem?_eq_getElem hid] at xd
            rw [← hfree, getD_at hid]; simpa using xd.symm
          rw [e2] at c1
          have HXI : Hid (x < dm.length) := by
            show x < dm.length
            rw [hdl]; exact hx1
          have q3 : (m : Int) < (K : Int) := by omega
          have q4 : (0 : Int) ≤ (m : Int) := by omega
          have q5 : (m : Int) + 1 ≤ 9223372036854775807 := by omega
          have q6 : (0 : Int) ≤ (x : Int) := by omega
          have q7 : (x : Int) < (i : Int) := by omega
          have q8 : ¬ (x : Int) ≤ ls := by omega
          have q9 : ¬ (i : Int) ≤ (x : Int) := by omega
          have HLS2 : Hid (∀ j (h : j < Q.length), m + 1 ≤ j → (x : Int) < (Q[j] : Int)) := fun j hj hmj => by
            have := (List.pairwise_iff_getElem.1 HQI.out) m j HMQ.out hj (by omega)
            rw [HX.out HMQ.out] at this
            omega
          have hx100 : (x : Int) ≤ 100 := by omega
          clear hmq hx1 hx2 hx3 hfree hls3 hlr xl tb hbk e4 hbr hdur xu e1 xd e2 hdl f0 fl el3 el4 eu2 eu3 ed2 ed3 HLS
          go_wp2_with fail
          go_quiet ((go_at_call 26; exact Calls.quiet_of_same (hnw _)))
          go_wp2_with fail
          refine ⟨⟨m + 1, x, dm.set x true, by simp, rfl, by omega, by omega, hx100, HLS2, ?_, ?_, ?_⟩, ?_⟩
          · have := HDm.out.next HMQ.out (by rw [HX.out HMQ.out, ← HDm.out.len]; exact HXI.out)
            rw [HX.out HMQ.out] at this
            exact this
          · exact Dn.set (own_below HDnr.out (Kb.below_drewN (Below.refl _ _) _)) x HXI.out
          · exact (HFr.out.behind (Kb.below_drewN (Below.refl _ _) _)).set (p := ⟨gd, x, none⟩) (.inl rfl) _
          · simp only [intOf]; omega
        · obtain rfl : m = K := by omega
          have HDD : Hid (∀ k, k < i → dm.getD k true = (dn.getD k true || due.getD k 0 == now + 1)) := fun k hk => by
            have h1 := HDm.out
            rw [← HK.out, ← HQ.out] at h1
            exact h1.done k (by rw [HN.out]; exact hk)
          have hdl : dm.length = i := HDm.out.len.trans HND.out
          have HDL : Hid (dm.length = i) := hdl
          have HDUR : Hid (Du wr (.slice ou i cu) due) := own_keep HDU.out fun g hg => by
            obtain ⟨c, hc⟩ := own_ty HDU.out hg
            exact HKR.out g c hc
          have HNOT : Hid (∀ k, k < i → dm.getD k true = false → now + 1 < due.getD k 0) := fun k hk hf => by
            rw [HDD.out k hk, Bool.or_eq_false_iff] at hf
            have h1 : el due th k ∈ Lof due dn th := lof_mem.2 ⟨k, by rw [HN.out]; exact hk, hf.1, rfl⟩
            have h2 := HOK.out.tik _ h1
            have h3 : ¬ due.getD k 0 = now + 1 := by simpa using hf.2
            have h4 : now < due.getD k 0 := h2.1
            omega
          obtain ⟨wq, hwq⟩ : ∃ wq, wq = wr := ⟨_, rfl⟩
          subst hwq
          have q3 : ¬ (m : Int) < (m : Int) := by omega
          clear hm hls hls2 hdl HLS
          go_wp2_with fail
          go_loopw [14] (fun iv wr => ∃ k : Nat, iv = .int .i64 (k : Int) ∧ k ≤ i ∧ Hid (Below wq.heap.size wq wr)) (fun iv _ => i + 1 - (intOf iv).toNat)
          case atStart => exact ⟨0, rfl, Nat.zero_le _, Below.refl _ _⟩
          case round =>
            obtain ⟨k, rfl, hk, HBq⟩ := hrel
            have hnw2 : ∀ m, Calls Try.prog 26 #[.pointer (some ⟨b, 0, none⟩)] (wr.drewN m) fun e w' => e = .returned (.int .i64 (now + 1)) ∧ w' = wr.drewN m := fun m => now_any (wr.drewN m) b B' n _ (now + 1) last (HWR.out.below (Kb.below_drewN HBq.out m))
            by_cases hlt3 : k < i
            · obtain ⟨gu, cu', uu, eu, xu, c0, f0⟩ := row_at (own_below HDUR.out HBq.out) k (by rw [HN.out]; exact hlt3)
              obtain ⟨gd, cd', ud, ed, xd, c1, f1⟩ := row_at (own_below HDnr.out HBq.out) k (by rw [HDL.out]; exact hlt3)
              injection eu with eu1 eu2 eu3
              injection ed with ed1 ed2 ed3
              subst eu1
              subst ed1
              have hiu : k < due.length := by rw [HN.out]; exact hlt3
              have hid : k < dm.length := by rw [HDL.out]; exact hlt3
              have e1 : uu = .int .i64 (due.getD k 0) := by
                rw [List.getElem?_map, List.getElem?_eq_getElem hiu] at xu
                rw [getD_ati hiu]; simpa using xu.symm
              have e2 : ud = .bool (dm.getD k true) := by
                rw [List.getElem?_map, List.getElem?_eq_getElem hid] at xd
                rw [getD_at hid]; simpa using xd.symm
              rw [e1] at c0
              rw [e2] at c1
              have hnot := HNOT.out k hlt3
              obtain ⟨d, HD⟩ : ∃ d, Hid (due.getD k 0 = d) := ⟨_, rfl⟩
              obtain ⟨bd, HBD⟩ : ∃ bd, Hid (dm.getD k true = bd) := ⟨_, rfl⟩
              rw [HBD.out] at c1 hnot
              rw [HD.out] at c0 hnot
              have q4 : (k : Int) < (i : Int) := by omega
              have q5 : (0 : Int) ≤ (k : Int) := by omega
              have q6 : (k : Int) + 1 ≤ 9223372036854775807 := by omega
              clear xu e1 xd e2 f0 f1 eu2 eu3 ed2 ed3 hiu hid hnw
              cases bd
              · have HD7 : Hid (decide (d ≤ now + 1) = false) := by
                  have := hnot rfl
                  show decide (d ≤ now + 1) = false
                  simp
                  omega
                clear hnot
                go_wp2_with fail
                have hd2 := HD7.out
                go_quiet ((go_at_call 26; exact Calls.quiet_of_same (hnw2 _)))
                go_wp2_with fail
                refine ⟨⟨k + 1, by simp, by omega, Kb.below_drewN HBq.out _⟩, ?_⟩
                simp only [intOf]; omega
              · clear hnot
                go_wp2_with fail
                go_quiet ((go_at_call 26; exact Calls.quiet_of_same (hnw2 _)))
                go_wp2_with fail
                refine ⟨⟨k + 1, by simp, by omega, Kb.below_drewN HBq.out _⟩, ?_⟩
                simp only [intOf]; omega
            · obtain rfl : k = i := by omega
              have q4 : ¬ (k : Int) < (k : Int) := by omega
              clear hk hnw2 hnw
              go_wp2_with fail
              go_ret
              refine ⟨rfl, dm, B', HDm.out.len, fun j hj => HDD.out j (by rw [← HN.out]; exact hj), ?_, own_below HDnr.out HBq.out, ?_, ?_⟩
              · have h1 := HWR.out.below HBq.out
                rw [lof_less (dn' := dm) (fun j hj => HDD.out j (by rw [← HN.out]; exact hj))] at h1
                exact h1
              · exact ((HFW.out.mono (C := fun g => B g ∨ (Value.slice od k cd).ownBlock = some g) (fun g h => .inl h)).trans HFr.out (fun g h => .inl (.inr h))).behind HBq.out
              · intro g hg
                rcases HB5.out g hg with h | h
                · exact .inl h
                · exact .inr (Nat.le_trans HB.out.size h)
end Go.Proofs.Ytdhljogcoooomaa.Oc
