/- StanBack: the walk of the law's fields. -/
import Derived.Test.YtmnoplaepjaokaaGreatDoorBb
namespace Go.Proofs.YtmnoplaepjaokaaGreatDoor.Bc
set_option linter.unusedVariables false
set_option linter.unusedSimpArgs false
open Go.RowKit Go.Maps Lib0 Kb Xp Za Zb Zc Zg Zh Ba Bb
def numV (l : List Int) : List Value := l.map fun x => Value.int .i64 x
theorem infoI : ∃ i, Tryz.prog.info? 3 = some i ∧ i.zero = some (.int .i64 0) ∧ i.size = 1 ∧ i.bytes = 8 := by
  have : (Tryz.prog.info? 3).map (fun i => (i.zero, i.size, i.bytes)) = some (some (.int .i64 0), 1, 8) := by kernel_rfl
  rcases hi : Tryz.prog.info? 3 with _ | i
  · rw [hi] at this; simp at this
  · rw [hi] at this
    simp at this
    exact ⟨i, rfl, this.1, this.2.1, this.2.2⟩
theorem rowi_own {w : World} {base : Nat} {t : TypeId} {v : Value} {l : List Int} (h : w.ownsRow base t 1 v l.length (numV l)) : RowI w v l := by
  rcases h.2 with ⟨rfl, h0⟩ | ⟨g, cap, cur, rfl, r⟩
  · have e : l = [] := List.eq_nil_of_length_eq_zero h0
    subst e
    exact ⟨none, 0, rfl, fun i hi => by simp at hi⟩
  · exact ⟨some ⟨g, 0, none⟩, cap, rfl, fun i hi => ⟨⟨g, 0, none⟩, rfl, h.cells (g := g) rfl _ _ (by simp [numV, hi])⟩⟩
theorem own_start (w : World) : (w.alloc (.cells #[.int .i64 11] 3)).ownsRow w.heap.size 3 1 (.slice (some ⟨w.heap.size, 0, none⟩) 1 1) 1 (numV [11]) :=
  ⟨rfl, .inr ⟨w.heap.size, 1, #[.int .i64 11], rfl, Nat.le_refl _, h1_0 w _, Nat.le_refl _, by unfold maxLen; omega, rfl, rfl⟩⟩
theorem fs_snoc (raw : List Int) (i : Nat) (h : i < raw.length) : fsL (raw.take (i + 1)) = addF (fsL (raw.take i)) raw[i] := by
  rw [List.take_succ_eq_append_getElem h, fsL, List.foldl_append]; rfl
theorem gf_take (raw : List Int) (i : Nat) : Gf (fsL (raw.take i)) (1 + i) := by
  induction i with
  | zero => exact gf_start
  | succ i ih =>
    by_cases h : i < raw.length
    · rw [fs_snoc raw i h]; exact ih.add _
    · rw [List.take_of_length_le (by omega)]
      rw [List.take_of_length_le (by omega)] at ih
      exact ⟨ih.pos, by have := ih.len; omega, ih.fld, ih.one⟩
theorem con_snoc (l : List Int) (k : Nat) (h : k < l.length) (n : Int) : (l.take (k + 1)).contains n = ((l.take k).contains n || l[k] == n) := by
  rw [List.take_succ_eq_append_getElem h]
  have e : (l[k] == n) = (n == l[k]) := by rw [Bool.eq_iff_iff, beq_iff_eq, beq_iff_eq]; exact eq_comm
  rw [e]
  simp only [List.contains_append, List.contains_cons, List.contains_nil, Bool.or_false]
set_option maxRecDepth 100000 in
set_option maxHeartbeats 1600000 in
theorem fields_any (v : Value) (raw : List Int) (w : World) (h : RowI w v raw) (hr : ∀ x ∈ raw, -9223372036854775808 ≤ x ∧ x ≤ 9223372036854775807) : Calls Tryz.prog 29 #[v] w fun e w' => ∃ v', e = .returned v' ∧ w'.ownsRow w.heap.size 3 1 v' (fsL (raw.take 40)).length (numV (fsL (raw.take 40))) ∧ Below w.heap.size w w' := by
  obtain ⟨i0, hi, hz0, hz1, hz2⟩ := infoI
  have HRW : Hid (∀ x, Below w.heap.size w x → RowI x v raw) := fun x k => rowi_below h k
  obtain ⟨o, cap, rfl, hc⟩ := h
  obtain ⟨N, HN⟩ : ∃ N, Hid (raw.length = N) := ⟨_, rfl⟩
  have HC : Hid (∀ i (h : i < raw.length), ∃ a : Addr, o = some a ∧ w.cell? (a.add i) = some (.int .i64 raw[i])) := hc
  have HB : Hid (∀ x ∈ raw, -9223372036854775808 ≤ x ∧ x ≤ 9223372036854775807) := hr
  rw [HN.out]
  clear hc hr HRW
  go_enter Tryz.func29, Tryz.ntmps29
  go_wp2_with fail
  go_loopw [3, 4] (fun lv iv wr => ∃ i n : Nat, iv = .int .i64 (i : Int) ∧ i ≤ N ∧ i ≤ 40 ∧ Hid ((fsL (raw.take i)).length = n) ∧ Hid (wr.ownsRow w.heap.size 3 1 lv n (numV (fsL (raw.take i)))) ∧ Hid (Below w.heap.size w wr)) (fun _ iv _ => 41 - (intOf iv).toNat)
  case atStart => exact ⟨0, 1, rfl, Nat.zero_le _, Nat.zero_le _, rfl, own_start w, below_one w _⟩
  case round =>
    obtain ⟨i, n, rfl, hi1, hi2, HL, HO, HBW⟩ := hrel
    have q1 : (0 : Int) ≤ (i : Int) := by omega
    have q2 : (i : Int) ≤ 40 := by omega
    by_cases hlt : i < N
    · have q3 : (i : Int) < (N : Int) := by omega
      by_cases h40 : i < 40
      · have q4 : (i : Int) < 40 := by omega
        have hir : i < raw.length := by rw [HN.out]; exact hlt
        obtain ⟨a, rfl, c0⟩ := HC.out i hir
        have c1 : wr.cell? (a.add i) = some (.int .i64 raw[i]) := (HBW.out.cell (World.block_lt_of_cell? w _ c0)).trans c0
        have HIN : Hid (i < N ∧ i < 40) := ⟨hlt, h40⟩
        have HXB := HB.out raw[i] (List.getElem_mem hir)
        have HS : Hid (fsL (raw.take (i + 1)) = addF (fsL (raw.take i)) raw[i]) := fs_snoc raw i hir
        have HG := (gf_take raw i).len
        rw [HL.out] at HG
        obtain ⟨l, Hl⟩ : ∃ l, Hid (fsL (raw.take i) = l) := ⟨_, rfl⟩
        obtain ⟨c, Hc⟩ : ∃ c, Hid (raw[i]'hir = c) := ⟨raw[i]'hir, rfl⟩
        rw [Hl.out] at HL HO HS
        rw [Hc.out] at c1 HXB HS
        have HF := field_any c HXB wr
        have n41 : (n : Int) ≤ 41 := by omega
        have n0 : (0 : Int) ≤ (n : Int) := by omega
        obtain ⟨f, HFe⟩ : ∃ f, Hid (fld c = f) := ⟨_, rfl⟩
        rw [HFe.out] at HF
        have HRI : Hid (RowI wr u3 l) := by
          have := HO.out
          rw [← HL.out] at this
          exact rowi_own this
        obtain ⟨o2, cap2, elv, HC2⟩ := HRI.out
        rw [HL.out] at elv
        subst elv
        replace HC2 : Hid (∀ i (h : i < l.length), ∃ a : Addr, o2 = some a ∧ wr.cell? (a.add i) = some (.int .i64 l[i])) := HC2
        clear HXB HG c0 hir hlt h40 hi1 hi2 HRI Hc
        go_wp2_with fail
        refine HF.mono ?_
        rintro e y ⟨rfl, hy⟩
        rw [hy]
        clear hy HF
        go_wp2_with fail
        obtain ⟨wq, ew⟩ : ∃ x, x = wr := ⟨_, rfl⟩
        subst ew
        go_loopw [6, 7] (fun bv kv wr => ∃ (k : Nat) (B : Bool), kv = .int .i64 (k : Int) ∧ k ≤ n ∧ bv = .bool B ∧ Hid ((l.take k).contains f = B) ∧ wr = wq) (fun _ kv _ => n + 1 - (intOf kv).toNat)
        case atStart => exact ⟨0, false, rfl, Nat.zero_le _, rfl, by simp [Hid], rfl⟩
        case round =>
          obtain ⟨k, B, rfl, hk, rfl, HK, rfl⟩ := hrel
          have k1 : (0 : Int) ≤ (k : Int) := by omega
          by_cases hkn : k < n
          · have k2 : (k : Int) < (n : Int) := by omega
            have k3 : (k : Int) ≤ 41 := by omega
            have hkl : k < l.length := by rw [HL.out]; exact hkn
            obtain ⟨b, rfl, d0⟩ := HC2.out k hkl
            have HKN : Hid (k < n) := hkn
            have HK2 : Hid ((l.take (k + 1)).contains f = (B || l[k] == f)) := by
              have := con_snoc l k hkl f
              rw [HK.out] at this
              exact this
            obtain ⟨x, HX⟩ : ∃ x, Hid (l[k]'hkl = x) := ⟨l[k]'hkl, rfl⟩
            rw [HX.out] at d0 HK2
            clear hk hkn HX hkl
            cases B
            · by_cases e : x = f
              · subst e
                have HK3 : Hid ((l.take (k + 1)).contains x = true) := by
                  show _ = true
                  rw [HK2.out]; simp
                clear HK2
                go_wp2_with fail
                have := HKN.out
                exact ⟨⟨k + 1, true, by simp, by omega, rfl, HK3, trivial⟩, by simp only [intOf]; omega⟩
              · have e2 : (x == f) = false := by simpa using e
                have HK3 : Hid ((l.take (k + 1)).contains f = false) := by
                  have := HK2.out
                  rw [e2] at this
                  exact this
                clear e HK2
                go_wp2_with fail
                have := HKN.out
                exact ⟨⟨k + 1, false, by simp, by omega, rfl, HK3, trivial⟩, by simp only [intOf]; omega⟩
            · have HK3 : Hid ((l.take (k + 1)).contains f = true) := by
                show _ = true
                rw [HK2.out]; simp
              clear HK2
              go_wp2_with fail
              have := HKN.out
              exact ⟨⟨k + 1, true, by simp, by omega, rfl, HK3, trivial⟩, by simp only [intOf]; omega⟩
          · obtain rfl : k = n := by omega
            have k2 : ¬ (k : Int) < (k : Int) := by omega
            have HCN : Hid (l.contains f = B) := by
              have := HK.out
              rw [← HL.out, List.take_length] at this
              exact this
            clear hk hkn HK
            cases B
            · have HS2 : Hid (fsL (raw.take (i + 1)) = l ++ [f]) := by
                show _ = _
                rw [HS.out, addF, HFe.out, HCN.out]; rfl
              have own := HO.out
              have hsz := HBW.out.size
              have HWQ : Hid (w.heap.size ≤ wr.heap.size) := hsz
              go_wp2_with (at_builtin; refine wpList_append_lies _ rfl _ _ _ rfl w.heap.size 3 i0 _ 1 8 Tryz.underlying46 hi hz0 hz1 hz2 rfl (by omega) _ k _ rfl (own.alloc _) ⟨wr.heap.size, 0, Option.none⟩ 1 1 _ rfl (by rfl) (World.news_of_block (heap_alloc_new wr _)) (by simp [Value.oneCell']) (by omega) (by unfold maxLen; omega) (by omega) (by first | omega | (simp <;> omega)) (wr.heap.size + 1) (by simp) ?_; intro ga ca wa own1 g1 hat hlt1)
              have hin := HIN.out
              refine ⟨⟨i + 1, k + 1, by simp, by omega, by omega, by rw [HS2.out]; simp [HL.out, Hid], by rw [HS2.out]; simpa [numV, Hid] using own1, ?_⟩, by simp only [intOf]; omega⟩
              refine (HBW.out.alloc (by omega) _).grown g1 (by simp; omega) fun k hk => ?_
              rcases own.2 with ⟨e1, _⟩ | ⟨g, cap, cur, e1, hgb, _⟩
              · rw [e1] at hk; cases hk
              · rw [e1] at hk
                have : g = k := Option.some.inj (show some g = some k from hk)
                omega
            · have HS2 : Hid (fsL (raw.take (i + 1)) = l) := by
                show _ = _
                rw [HS.out, addF, HFe.out, HCN.out]; rfl
              go_wp2_with fail
              have hin := HIN.out
              exact ⟨⟨i + 1, k, by simp, by omega, by omega, by rw [HS2.out]; exact HL, by rw [HS2.out]; exact HO, HBW⟩, by simp only [intOf]; omega⟩
      · obtain rfl : i = 40 := by omega
        have q4 : ¬ (((40 : Nat) : Int) < 40) := by omega
        clear q1 q2 hi1 hi2
        go_wp2_with fail
        go_ret
        have ho := HO.out
        rw [← HL.out] at ho
        exact ⟨_, rfl, ho, HBW.out⟩
    · obtain rfl : i = N := by omega
      have q3 : ¬ (i : Int) < (i : Int) := by omega
      have HT : Hid (raw.take 40 = raw.take i) := by
        show _ = _
        rw [← HN.out, List.take_length, List.take_of_length_le (by rw [HN.out]; exact hi2)]
      clear hi1 hi2 hlt
      go_wp2_with fail
      go_ret
      have ho := HO.out
      rw [← HL.out] at ho
      exact ⟨_, rfl, by rw [HT.out]; exact ho, HBW.out⟩
end Go.Proofs.YtmnoplaepjaokaaGreatDoor.Bc
