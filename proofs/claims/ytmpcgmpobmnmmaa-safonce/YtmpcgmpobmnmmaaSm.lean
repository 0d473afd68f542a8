/- All; the laws' text. -/
import Derived.Test.YtmpcgmpobmnmmaaSk
namespace Go.Proofs.Ytmpcgmpobmnmmaa.Sm
set_option linter.unusedVariables false
set_option linter.unusedSimpArgs false
open Go.RowKit Go.Maps Lib0 Kb Xp Za Zc Zd Ze Sa Sb Sc Sd Se Sf Sg Sh Si Sj Sk
attribute [local go_sem] Oper.semAt_some
abbrev PT := Av × Value × Value
def pl (ps : List PT) : List Value := ps.flatMap fun p => (acs p.1 p.2.1 p.2.2).toList
theorem pl_append (a b : List PT) : pl (a ++ b) = pl a ++ pl b := by simp [pl]
theorem pl_one (p : PT) : pl [p] = (acs p.1 p.2.1 p.2.2).toList := by simp [pl]
theorem infoA6 : ∃ i, Try.prog.info? tA = some i ∧ i.zero = some (.agg zA) ∧ i.size = 6 ∧ i.bytes = 96 := by
  have h : (Try.prog.info? tA).map (fun i => (i.zero, i.size, i.bytes)) = some (some (.agg zA), 6, 96) := by kernel_rfl
  cases e : Try.prog.info? tA with
  | none => rw [e] at h; cases h
  | some i => rw [e] at h; simp at h; exact ⟨i, rfl, h.1, h.2.1, h.2.2⟩
theorem pl_at : ∀ (ps : List PT) (i : Nat) (h : i < ps.length), (pl ps)[i * 6 + 1]? = some (.int .i64 ps[i].1.no) ∧ (pl ps)[i * 6 + 2]? = some (.string ps[i].1.m1)
  | [], i, h => by simp at h
  | x :: L, 0, h => by simp [pl, acs]
  | x :: L, i + 1, h => by
    have := pl_at L i (by simpa using h)
    have e : pl (x :: L) = (acs x.1 x.2.1 x.2.2).toList ++ pl L := by simp [pl]
    have l6 : (acs x.1 x.2.1 x.2.2).toList.length = 6 := rfl
    rw [e, List.getElem?_append_right (by rw [l6]; omega), List.getElem?_append_right (by rw [l6]; omega), l6, show (i + 1) * 6 + 1 - 6 = i * 6 + 1 by omega, show (i + 1) * 6 + 2 - 6 = i * 6 + 2 by omega]
    simpa using this
theorem pl_len : ∀ ps : List PT, (pl ps).length = ps.length * 6
  | [] => rfl
  | x :: L => by
    have := pl_len L
    have e : pl (x :: L) = (acs x.1 x.2.1 x.2.2).toList ++ pl L := by simp [pl]
    rw [e, List.length_append, this, List.length_cons, show (acs x.1 x.2.1 x.2.2).toList.length = 6 from rfl]
    omega
/-- what holds along All's loop -/
structure Ai (w wr : World) (S : St) (vl : Value) (ps : List PT) (i : Nat) : Prop where
  bel : Below w.heap.size w wr
  eq : ps.map Prod.fst = S.L.take i
  row : wr.ownsRow w.heap.size tA 6 vl ps.length (pl ps)
def PostL (w : World) (S : St) (e : Ending) (w' : World) : Prop := ∃ vl ps, e = .returned vl ∧ ps.map Prod.fst = S.L ∧ w'.ownsRow w.heap.size tA 6 vl ps.length (pl ps) ∧ Below w.heap.size w w'
set_option maxRecDepth 100000 in
set_option maxHeartbeats 3200000 in
theorem all_any {w : World} {base g : Nat} {S : St} (h : Sq w base g S) (ok : Ok S) : Calls Try.prog 17 #[.pointer (some ⟨g, 0, none⟩)] w (PostL w S) := by
  obtain ⟨vw, vg, zs, h⟩ := h
  have HOK : Hid (Ok S) := ok
  have HQ : Hid (Qm w base g S vw vg zs) := h
  obtain ⟨-, -, -, c3, -⟩ := h.cells
  have hzl : zs.length = S.L.length := by rw [← h.eq, List.length_map]
  have hlen : zs.length ≤ 10000 := by
    have := ok.len
    have := ok.m1
    omega
  obtain ⟨o, cp, rfl, -⟩ := own_form h.row
  have HC : Hid (∀ i (hi : i < zs.length), ∃ a : Addr, o = some a ∧ w.cell? (a.add i) = some (ptr zs[i].1)) := fun i hi => by
    rcases h.row.2 with ⟨e, h0⟩ | ⟨g, cap, cur, e, r⟩
    · omega
    · injection e with e1 e2 e3
      subst e1
      exact ⟨_, rfl, h.row.cells (g := g) rfl _ _ (by rw [List.getElem?_map, List.getElem?_eq_getElem hi]; rfl)⟩
  obtain ⟨N, HN⟩ : ∃ N, Hid (zs.length = N) := ⟨_, rfl⟩
  have HZ : Hid (N = S.L.length) := by rw [← HN.out]; exact hzl
  rw [HN.out] at hlen c3
  have HA0 : Hid (Ai w w S (.slice none 0 0) [] 0) := ⟨Below.refl _ _, by simp, World.ownsRow_nil _ _ _ _⟩
  obtain ⟨ti, hi, hz, hsz, hby⟩ := infoA6
  have HI : Hid (Try.prog.info? tA = some ti ∧ ti.zero = some (.agg zA) ∧ ti.size = 6 ∧ ti.bytes = 96) := ⟨hi, hz, hsz, hby⟩
  clear h ok hzl hi hz hsz hby
  go_enter Try.func17, Try.ntmps17
  go_wp2_with fail
  go_loopw [3, 5, 11] (fun lv _ iv wr => ∃ (i : Nat) (ps : List PT), iv = .int .i64 (i : Int) ∧ i ≤ N ∧ Hid (Ai w wr S lv ps i) ∧ Hid (ps.length = i)) (fun _ _ iv _ => N + 1 - (intOf iv).toNat)
  case atStart => exact ⟨0, [], rfl, Nat.zero_le _, HA0, rfl⟩
  case round =>
    obtain ⟨i, ps, rfl, hi, HA, HPL⟩ := hrel
    rename_i lv _
    clear HA0
    obtain ⟨ol, cl, hv, -⟩ := own_form HA.out.row
    rw [HPL.out] at hv
    subst hv
    by_cases hlt : i < N
    · have hi2 : i < zs.length := by rw [HN.out]; exact hlt
      have HI2 : Hid (i < zs.length) := hi2
      obtain ⟨a, rfl, c0⟩ := HC.out i hi2
      replace c0 : wr.cell? (a.add i) = some (ptr (zs[i]'hi2).1) := (HA.out.bel.cell (World.block_lt_of_cell? w _ c0)).trans c0
      have q0 : (i : Int) < (N : Int) := by omega
      have q1 : (0 : Int) ≤ (i : Int) := by omega
      have q3 : (i : Int) + 1 ≤ 9223372036854775807 := by omega
      have had := (HQ.out.ads _ (List.getElem_mem hi2)).keep (Kq.of HA.out.bel)
      have hof : S.L[i]? = some (zs[i]'hi2).2 := by rw [← HQ.out.eq, List.getElem?_map, List.getElem?_eq_getElem hi2]; rfl
      obtain ⟨⟨k, r⟩, hx⟩ : ∃ x : ZA, zs[i]'hi2 = x := ⟨_, rfl⟩
      rw [hx] at c0 had hof
      dsimp only at c0 had hof
      unfold ptr at c0
      obtain ⟨-, v1, v2, hk, r1, r2⟩ := had
      have hfo := HOK.out.fo r (List.mem_of_getElem? hof)
      have HRM : Hid (Rm wr r v1 v2) := ⟨⟨hfo.1, rowf_own r1, hfo.2.2.1⟩, ⟨hfo.2.1, rowf_own r2, hfo.2.2.2.1⟩⟩
      have HKB : Hid (wr.heap[k]? = some (.cells (acs r v1 v2) tA (0, 0))) := hk
      have HOF : Hid (S.L[i]? = some r) := hof
      clear hx hk r1 r2 hfo hof hi2
      go_wp2_with (first | (refine wpList_load_row rfl tA _ rfl k rfl _ _ _ _ HKB.out Try.underlying54 rfl infoA ?_) | fail)
      refine (copied_any r v1 v2 _ HRM.out).mono ?_
      rintro e x ⟨u1, u2, rfl, r1, r2, hb⟩
      obtain ⟨s1, b1, rfl, -⟩ := own_form r1
      obtain ⟨s2, b2, rfl, -⟩ := own_form r2
      obtain ⟨A, hA⟩ : ∃ A, acs r (.slice s1 r.L1.length b1) (.slice s2 r.L2.length b2) = A := ⟨_, rfl⟩
      have hown : (x.alloc (.cells A tA)).ownsRow w.heap.size tA 6 (.slice ol i cl) i (pl ps) := by
        have := HA.out.row
        rw [HPL.out] at this
        exact own_keep this fun b hbb => (keepB hb (below_one x _)).block b (this.lt b hbb).2
      have HOWN : Hid _ := hown
      have HBX : Hid (Below w.heap.size w (x.alloc (.cells A tA))) := keepB HA.out.bel (keepB hb (below_one x _))
      have HNEW : Hid (∀ j u, A.toList[j]? = some u → (x.alloc (.cells A tA)).cell? ((⟨x.heap.size, 0, none⟩ : Addr).add j) = some u) := fun j u hj => by
        rw [add_zero]
        exact (cell_of_row _ _ _ _ _ _ (h1_0 x _)).trans (by rw [← Array.getElem?_toList]; exact hj)
      have HONE : Hid (∀ u ∈ A.toList, u.oneCell' = true) := fun u hu => by
        rw [← hA] at hu
        simp [acs] at hu
        rcases hu with rfl | rfl | rfl | rfl | rfl | rfl <;> simp [Value.oneCell']
      have HAL : Hid (A.toList.length = 1 * 6) := by rw [← hA]; rfl
      have HAE : Hid (acs r (.slice s1 r.L1.length b1) (.slice s2 r.L2.length b2) = A) := hA
      clear r1 r2 hb hown HRM HKB c0
      have HEND : Hid (∀ g4 cap y, y.ownsRow w.heap.size tA 6 (.slice (some ⟨g4, 0, none⟩) (i + 1) cap) (i + 1) (pl ps ++ A.toList) → (x.alloc (.cells A tA)).grownBy y (Value.slice ol i cl).ownBlock → Hid (Ai w y S (.slice (some ⟨g4, 0, none⟩) (i + 1) cap) (ps ++ [(r, .slice s1 r.L1.length b1, .slice s2 r.L2.length b2)]) (i + 1) ∧ (ps ++ [(r, Value.slice s1 r.L1.length b1, Value.slice s2 r.L2.length b2)]).length = i + 1)) := fun g4 cap y hr hg => by
        refine ⟨⟨?_, ?_, ?_⟩, by rw [List.length_append, HPL.out]; rfl⟩
        · exact HBX.out.trans ⟨hg.os, hg.tape, hg.output, hg.size, fun b hb => hg.block b (Nat.lt_of_lt_of_le hb HBX.out.size) (fun e => by
            have := Lib0.own_ge HOWN.out b e.symm
            omega)⟩
        · rw [List.map_append, HA.out.eq, List.take_add_one, HOF.out]; rfl
        · rw [List.length_append, HPL.out, pl_append, pl_one, HAE.out]
          exact hr
      have hbase : w.heap.size ≤ (x.alloc (.cells A tA)).heap.size := HBX.out.size
      have HBASE : Hid _ := hbase
      clear hA hbase
      have hA := HAE.out
      subst hA
      unfold av
      simp only [acs] at HNEW HONE HAL HBX HOWN HEND HBASE ⊢
      generalize r.L1.length = M1 at *
      generalize r.L2.length = M2 at *
      have hi1 : i + 1 ≤ 10000 := by omega
      go_wp2_with (at_builtin; refine wpList_append_lies _ rfl _ _ _ rfl w.heap.size tA ti _ 6 96 Try.underlying22 HI.out.1 HI.out.2.1 HI.out.2.2.1 HI.out.2.2.2 rfl (by omega) _ i _ rfl HOWN.out ⟨x.heap.size, 0, none⟩ 1 1 _ rfl HAL.out HNEW.out HONE.out (by omega) (by unfold maxLen; omega) (by omega) HBASE.out (x.heap.size + 1) (by simp) ?_; intro g4 cap4 y4 hown4 hgr4 _ _; have HE := HEND.out g4 cap4 y4 hown4 hgr4; clear hown4 hgr4)
      exact ⟨⟨i + 1, _, by simp, by omega, HE.out.1, HE.out.2⟩, by simp only [intOf]; omega⟩
    · obtain rfl : i = N := by omega
      have HE : Hid (ps.map Prod.fst = S.L) := by rw [HA.out.eq, HZ.out, List.take_length]; rfl
      clear hi
      go_wp2_with fail
      go_ret
      refine ⟨_, ps, rfl, HE.out, ?_, HA.out.bel⟩
      exact HA.out.row
def dec (n : Nat) : List UInt8 := if h : n = 0 then [] else dec (n / 10) ++ [UInt8.ofNat (48 + n % 10)]
termination_by n
decreasing_by omega
def ks (n : Nat) : ByteArray := ⟨(dec n).toArray⟩
theorem dec_step (i : Nat) (h : 0 < i) : dec i = dec (i / 10) ++ [UInt8.ofNat (48 + i % 10)] := by
  rw [dec, dif_neg (by omega)]
theorem dec_len : ∀ n : Nat, (dec n).length ≤ n := by
  intro n
  induction n using Nat.strongRecOn with
  | _ n ih =>
    by_cases h : n = 0
    · subst h; rw [dec, dif_pos rfl]; simp
    · rw [dec, dif_neg h, List.length_append, List.length_singleton]
      have := ih (n / 10) (by omega)
      omega
theorem ks_size (n : Nat) : (ks n).size ≤ n := by
  have := dec_len n
  show (dec n).toArray.size ≤ n
  simpa using this
set_option maxRecDepth 100000 in
set_option maxHeartbeats 1600000 in
theorem text_any (n : Nat) (hn : n ≤ 900000) (w : World) : Calls Try.prog 21 #[.int .i64 (n : Int)] w fun e w' => e = .returned (.string (ks n)) ∧ Below w.heap.size w w' := by
  have HI : Hid (Below w.heap.size w w) := Below.refl _ _
  go_enter Try.func21, Try.ntmps21
  go_wp2_with fail
  go_loopw [0, 3] (fun iv kv wr => ∃ (i : Nat) (k : ByteArray), iv = .int .i64 (i : Int) ∧ kv = .string k ∧ i ≤ n ∧ Hid (dec i ++ k.data.toList = dec n) ∧ Hid (Below w.heap.size w wr)) (fun iv _ _ => (intOf iv).toNat)
  case atStart => exact ⟨n, ⟨#[]⟩, rfl, rfl, Nat.le_refl _, by show _ = _; simp, HI.out⟩
  case round =>
    obtain ⟨i, k, rfl, rfl, hi, HK, HS⟩ := hrel
    by_cases h0 : 0 < i
    · have q0 : (0 : Int) < (i : Int) := by omega
      have hks : k.size ≤ 1000000 := by
        have h1 := congrArg List.length HK.out
        have h2 := dec_len n
        rw [List.length_append] at h1
        have h3 : k.data.toList.length = k.size := by rw [Array.length_toList]; rfl
        omega
      have hcv := conv1 wr (48 + (i : Int) % 10) (48 + i % 10) (by omega) (by push_cast; rfl)
      have HB2 : Hid (Below w.heap.size w (wr.alloc (.cells #[.int .u8 (48 + (i : Int) % 10)] 5))) := keepB HS.out (below_one _ _)
      go_wp2_with fail
      have hdv : ((i : Int) / 10) = ((i / 10 : Nat) : Int) := by omega
      refine ⟨⟨i / 10, _, by rw [hdv], rfl, by omega, ?_, HB2.out⟩, ?_⟩
      · show _ = _
        rw [← HK.out, dec_step i h0, ByteArray.data_append]
        simp
      · simp only [intOf]
        omega
    · obtain rfl : i = 0 := by omega
      have q0 : ¬ (0 : Int) < ((0 : Nat) : Int) := by omega
      have hk : k = ks n := by
        have h1 := HK.out
        rw [dec, dif_pos rfl, List.nil_append] at h1
        unfold ks
        rw [← h1]
      subst hk
      clear HK hi h0
      go_wp2_with fail
      go_ret
      exact ⟨rfl, HS.out⟩
end Go.Proofs.Ytmpcgmpobmnmmaa.Sm
