/- The document's list of prefixes: Find. -/
import Derived.Test.YtecboaocoobjgaaGreatDoorDa
import Derived.DataElems
namespace Go.Proofs.YtecboaocoobjgaaGreatDoor.Db
set_option linter.unusedVariables false
set_option linter.unusedSimpArgs false
open Go.RowKit Go.Shelf Lib0 Kb Rp Rw Rs Li Mj Tj Ra Da
attribute [local go_sem] Oper.semAt_some
def dgs (z : K) : Nat := (z.takeWhile isD).length
theorem dgs_le (z : K) : dgs z ≤ z.length := (List.takeWhile_prefix isD).length_le
theorem dgs_lt : ∀ (z : K) (k : Nat) (h : k < dgs z) (hk : k < z.length), isD z[k] = true
  | [], k, h, hk => by simp at hk
  | c :: z, k, h, hk => by
    unfold dgs at h
    rw [List.takeWhile_cons] at h
    cases hc : isD c with
    | false => rw [hc] at h; simp at h
    | true =>
      cases k with
      | zero => exact hc
      | succ k =>
        rw [hc] at h
        exact dgs_lt z k (by simpa [dgs] using h) (by simpa using hk)
theorem dgs_at : ∀ (z : K) (h : dgs z < z.length), isD z[dgs z] = false
  | [], h => by simp at h
  | c :: z, h => by
    cases hc : isD c with
    | false =>
      have e : dgs (c :: z) = 0 := by simp [dgs, hc]
      simp only [e, List.getElem_cons_zero]
      exact hc
    | true =>
      have e : dgs (c :: z) = dgs z + 1 := by simp [dgs, hc]
      simp only [e, List.getElem_cons_succ]
      exact dgs_at z (by rw [e] at h; simpa using h)
theorem dgs_take : ∀ (z : K) (j : Nat), (z.take j).all isD = true → j ≤ z.length → j ≤ dgs z
  | _, 0, _, _ => Nat.zero_le _
  | [], j + 1, _, h => by simp at h
  | c :: z, j + 1, h, hj => by
    rw [List.take_succ_cons, List.all_cons, Bool.and_eq_true] at h
    have e : dgs (c :: z) = dgs z + 1 := by simp [dgs, h.1]
    have := dgs_take z j h.2 (by simpa using hj)
    omega
def Mt (z p : K) : Prop := p.length ≤ dgs z ∧ z.take p.length = p
/- What is best among the first i. -/
def Best (L : LT) (z : K) (i : Nat) (v : Int) : Prop :=
  (v = -1 ∧ ∀ j (h : j < L.length), j < i → ¬ Mt z L[j].1) ∨
  ∃ b : Nat, v = (b : Int) ∧ b < i ∧ ∃ h : b < L.length, Mt z L[b].1 ∧ ∀ j (h' : j < L.length), j < i → Mt z L[j].1 → L[j].1.length ≤ L[b].1.length
theorem best_end {L : LT} {z : K} {v : Int} (hS : Srt L) (hK : ∀ x ∈ L, okK x.1 = true) (h : Best L z L.length v) :
    (v = -1 ∧ lon (lkp L) z z.length = none) ∨ ∃ b : Nat, v = (b : Int) ∧ ∃ h : b < L.length, lon (lkp L) z z.length = some (L[b].2, L[b].1.length) := by
  have hM : ∀ j x, j ≤ z.length → lkp L (z.take j) = some x → ∃ i, ∃ h : i < L.length, L[i].1 = z.take j ∧ Mt z L[i].1 := by
    intro j x hj hx
    have hm := look_mem hx
    obtain ⟨i, hi, e⟩ := List.getElem_of_mem hm
    have ho := hK _ hm
    simp only [okK, Bool.and_eq_true] at ho
    have hl : (z.take j).length = j := by simp; omega
    refine ⟨i, hi, by rw [e], ?_⟩
    rw [e]
    exact ⟨by rw [hl]; exact dgs_take z j ho.1.1 hj, by rw [hl]⟩
  rcases h with ⟨rfl, h⟩ | ⟨b, rfl, hb, hbl, hm, hmax⟩
  · refine .inl ⟨rfl, lon_none _ _ _ fun j hj => ?_⟩
    cases hx : lkp L (z.take j) with
    | none => rfl
    | some x =>
      obtain ⟨i, hi, -, h2⟩ := hM j x hj hx
      exact absurd h2 (h i hi hi)
  · refine .inr ⟨b, rfl, hbl, ?_⟩
    have hlen : L[b].1.length ≤ z.length := Nat.le_trans hm.1 (dgs_le z)
    obtain ⟨n, hn⟩ : ∃ n, z.length = L[b].1.length + n := ⟨z.length - L[b].1.length, by omega⟩
    rw [hn, lon_up _ _ _ n]
    · refine lon_at _ _ _ _ ?_
      rw [hm.2]
      exact mem_look hS (List.getElem_mem hbl)
    · intro j h1 h2
      cases hx : lkp L (z.take j) with
      | none => rfl
      | some x =>
        obtain ⟨i, hi, e, h3⟩ := hM j x (by omega) hx
        have := hmax i hi hi h3
        rw [e] at this
        simp at this
        omega
theorem best_no {L : LT} {z : K} {i : Nat} {v : Int} (hi : i < L.length) (h : Best L z i v) (hn : ¬ Mt z L[i].1) : Best L z (i + 1) v := by
  rcases h with ⟨rfl, h⟩ | ⟨b, rfl, hb, hbl, hm, hmax⟩
  · refine .inl ⟨rfl, fun j hj hji => ?_⟩
    by_cases e : j < i
    · exact h j hj e
    · obtain rfl : j = i := by omega
      exact hn
  · refine .inr ⟨b, rfl, by omega, hbl, hm, fun j hj hji h3 => ?_⟩
    by_cases e : j < i
    · exact hmax j hj e h3
    · obtain rfl : j = i := by omega
      exact absurd h3 hn
theorem best_first {L : LT} {z : K} {i : Nat} (hi : i < L.length) (h : Best L z i (-1)) (hn : Mt z L[i].1) : Best L z (i + 1) (i : Int) := by
  rcases h with ⟨-, h⟩ | ⟨b, e, -⟩
  · refine .inr ⟨i, rfl, by omega, hi, hn, fun j hj hji h3 => ?_⟩
    by_cases e : j < i
    · exact absurd h3 (h j hj e)
    · obtain rfl : j = i := by omega
      exact Nat.le_refl _
  · omega
theorem best_more {L : LT} {z : K} {i b : Nat} (hi : i < L.length) (hb : b < L.length) (h : Best L z i (b : Int)) (hn : Mt z L[i].1) (hl : L[b].1.length < L[i].1.length) : Best L z (i + 1) (i : Int) := by
  rcases h with ⟨e, -⟩ | ⟨b', e, hb', hbl, hm, hmax⟩
  · omega
  · obtain rfl : b = b' := by omega
    refine .inr ⟨i, rfl, by omega, hi, hn, fun j hj hji h3 => ?_⟩
    by_cases e : j < i
    · have := hmax j hj e h3; omega
    · obtain rfl : j = i := by omega
      exact Nat.le_refl _
theorem best_less {L : LT} {z : K} {i b : Nat} (hi : i < L.length) (hb : b < L.length) (h : Best L z i (b : Int)) (hl : L[i].1.length ≤ L[b].1.length) : Best L z (i + 1) (b : Int) := by
  rcases h with ⟨e, -⟩ | ⟨b', e, hb', hbl, hm, hmax⟩
  · omega
  · obtain rfl : b = b' := by omega
    refine .inr ⟨b, rfl, by omega, hb, hm, fun j hj hji h3 => ?_⟩
    by_cases e : j < i
    · exact hmax j hj e h3
    · obtain rfl : j = i := by omega
      exact hl
theorem ext_take (s : ByteArray) (n : Nat) : s.extract 0 n = sB (s.data.toList.take n) := by
  apply ByteArray.ext
  apply Array.ext'
  simp only [ByteArray.data_extract, Array.toList_extract]
  simp [List.extract_eq_take_drop]
theorem at_data (s : ByteArray) (k : Nat) (h : k < s.size) : s[k]'h = s.data.toList[k]'(by simpa using h) := rfl
set_option maxRecDepth 100000 in
set_option maxHeartbeats 1600000 in
theorem findr_any (w : World) (b : Nat) (v : Value) (L : LT) (s : ByteArray) (hv : w.cell? ⟨b, 0, none⟩ = some v) (hr : RowL w v L) (hS : Srt L) (hK : ∀ x ∈ L, okK x.1 = true) (hs : s.size ≤ maxLen) : Calls Tryz.prog 18 #[.pointer (some ⟨b, 0, none⟩), .string s] w fun e w' => FindPost L s e ∧ Below w.heap.size w w' := by
  obtain ⟨o, cap, rfl, hn, hcell⟩ := hr
  obtain ⟨N, HN⟩ : ∃ N, Hid (L.length = N) := ⟨_, rfl⟩
  rw [HN.out] at hv hn
  have hN : (s.size : Int) ≤ 9223372036854775807 := by have := hs; simp only [maxLen] at this; omega
  have HCE : Hid (∀ i (h : i < L.length), ∃ a : Addr, o = some a ∧ w.cell? (a.add (i * 2)) = some (sv L[i].1) ∧ w.cell? (a.add (i * 2 + 1)) = some (.int .i64 L[i].2)) := hcell
  have HEND : Hid (∀ v, Best L s.data.toList N v → (v = -1 ∧ lon (lkp L) s.data.toList s.size = none) ∨ ∃ b : Nat, v = (b : Int) ∧ ∃ h : b < L.length, lon (lkp L) s.data.toList s.size = some (L[b].2, L[b].1.length)) := fun v h => by
    have hz : s.size = s.data.toList.length := by simp
    rw [hz]
    exact best_end hS hK (by rw [HN.out]; exact h)
  have HLK : Hid (∀ x ∈ L, x.1.length ≤ 19) := fun x hx => by
    have := hK x hx
    simp only [okK, Bool.and_eq_true, decide_eq_true_eq] at this
    omega
  have HGL : Hid (∀ k, k < dgs s.data.toList → ∃ h : k < s.size, isD (s[k]'h) = true) := fun k hk => by
    have h1 : k < s.data.toList.length := Nat.lt_of_lt_of_le hk (dgs_le _)
    exact ⟨by simpa using h1, dgs_lt _ k hk h1⟩
  have HGA : Hid (∀ h : dgs s.data.toList < s.size, isD (s[dgs s.data.toList]'h) = false) := fun h => dgs_at s.data.toList (by simpa using h)
  have HGS : Hid (dgs s.data.toList ≤ s.size) := by show _ ≤ _; have := dgs_le s.data.toList; simpa using this
  obtain ⟨G, HG⟩ : ∃ G, Hid (dgs s.data.toList = G) := ⟨_, rfl⟩
  simp only [HG.out] at HGL HGA HGS
  clear hcell hS hK hs
  go_enter Tryz.func18, Tryz.ntmps18
  go_wp2_with fail
  go_loopw [7] (fun iv wr => ∃ k : Nat, iv = .int .i64 (k : Int) ∧ k ≤ G ∧ wr = w) (fun iv _ => G + 1 - (intOf iv).toNat)
  case atStart => exact ⟨0, rfl, Nat.zero_le _, rfl⟩
  case round =>
    obtain ⟨k, rfl, hk, rfl⟩ := hrel
    by_cases hc : k < G
    · obtain ⟨hks, hd⟩ := HGL.out k hc
      rw [isD_iff] at hd
      have d0 : (48 : Int) ≤ ((s[k]'hks).toNat : Int) := by omega
      have d1 : ((s[k]'hks).toNat : Int) ≤ 57 := by omega
      have q0 : (k : Int) < (s.size : Int) := by omega
      have q1 : (0 : Int) ≤ (k : Int) := by omega
      have q2 : (k : Int) + 1 ≤ 9223372036854775807 := by omega
      have HC : Hid (k < G) := hc
      clear hc hk hd
      go_wp2_with fail
      exact ⟨⟨k + 1, by simp, HC.out, trivial⟩, by simp only [intOf]; have := HC.out; omega⟩
    · obtain rfl : k = G := by omega
      clear hc hk
      by_cases hks : k < s.size
      · have hd := HGA.out hks
        have q0 : (k : Int) < (s.size : Int) := by omega
        have q1 : (0 : Int) ≤ (k : Int) := by omega
        by_cases d0 : (48 : Int) ≤ ((s[k]'hks).toNat : Int)
        · have d1 : ¬ ((s[k]'hks).toNat : Int) ≤ 57 := by
            simp [isD] at hd; omega
          clear hd
          go_wp2_with fail
          go_loopw [8, 9, 10] (fun bv iv _ w2 => ∃ (q : Nat) (b9 : Int), bv = .int .i64 b9 ∧ iv = .int .i64 (q : Int) ∧ q ≤ N ∧ Hid (Best L s.data.toList q b9) ∧ w2 = wr) (fun _ iv _ _ => N + 1 - (intOf iv).toNat)
          case atStart => exact ⟨0, -1, rfl, rfl, Nat.zero_le _, .inl ⟨rfl, fun j h hj => absurd hj (Nat.not_lt_zero _)⟩, rfl⟩
          case round =>
            obtain ⟨q, b9, rfl, rfl, hq, HB, rfl⟩ := hrel
            by_cases hc : q < N
            · have hqL : q < L.length := by rw [HN.out]; exact hc
              obtain ⟨a, rfl, c0, -⟩ := HCE.out q hqL
              have h19 := HLK.out _ (List.getElem_mem hqL)
              have HNO : Hid (¬ Mt s.data.toList (L[q]'hqL).1 → Best L s.data.toList (q + 1) b9) := best_no hqL HB.out
              have HFI : Hid (b9 = -1 → Mt s.data.toList (L[q]'hqL).1 → Best L s.data.toList (q + 1) (q : Int)) := fun e h => best_first hqL (by rw [← e]; exact HB.out) h
              have HMO : Hid (∀ b (hb : b < L.length), b9 = (b : Int) → Mt s.data.toList (L[q]'hqL).1 → L[b].1.length < (L[q]'hqL).1.length → Best L s.data.toList (q + 1) (q : Int)) := fun b hb e h hl => best_more hqL hb (by rw [← e]; exact HB.out) h hl
              have HLE : Hid (∀ b (hb : b < L.length), b9 = (b : Int) → (L[q]'hqL).1.length ≤ L[b].1.length → Best L s.data.toList (q + 1) (b : Int)) := fun b hb e hl => best_less hqL hb (by rw [← e]; exact HB.out) hl
              generalize (L[q]'hqL).1 = x at c0 h19 HNO HFI HMO HLE
              have q0 : (q : Int) < (N : Int) := by omega
              have q1 : (0 : Int) ≤ (q : Int) := by omega
              have q2 : (q : Int) + 1 ≤ 9223372036854775807 := by omega
              have HC : Hid (q < N) := hc
              have hext : (s.extract 0 x.length).toList = s.data.toList.take x.length := by rw [ext_take]; simp [ByteArray.toList_eq]
              clear hc hq hqL
              by_cases hl : x.length ≤ k
              · have l0 : (x.length : Int) ≤ (k : Int) := by omega
                have l1 : (x.length : Int) ≤ (s.size : Int) := by have := HGS.out; omega
                have l2 : (0 : Int) ≤ (x.length : Int) := by omega
                by_cases he : s.data.toList.take x.length = x
                · have HMt : Hid (Mt s.data.toList x) := ⟨by rw [HG.out]; exact hl, he⟩
                  have e1 : ((s.extract 0 x.length).toList == x) = true := by rw [hext]; simpa using he
                  clear he hl hext
                  rcases HB.out with ⟨rfl, -⟩ | ⟨b8, rfl, hb8, hbL, -, -⟩
                  · have HB2 : Hid (Best L s.data.toList (q + 1) (q : Int)) := HFI.out rfl HMt.out
                    clear HB h19
                    go_wp2_with fail
                    exact ⟨⟨q + 1, _, rfl, by simp, HC.out, HB2, trivial⟩, by simp only [intOf]; have := HC.out; omega⟩
                  · obtain ⟨a', ea, c2, -⟩ := HCE.out b8 hbL
                    cases ea
                    have r0 : ¬ (b8 : Int) < 0 := by omega
                    have r1 : (0 : Int) ≤ (b8 : Int) := by omega
                    have r2 : (b8 : Int) < (N : Int) := by have := HC.out; omega
                    have HMO2 := HMO.out b8 hbL rfl HMt.out
                    have HLE2 := HLE.out b8 hbL rfl
                    have g19 := HLK.out _ (List.getElem_mem hbL)
                    generalize (L[b8]'hbL).1 = y at c2 HMO2 HLE2 g19
                    by_cases hm : y.length < x.length
                    · have HB2 : Hid (Best L s.data.toList (q + 1) (q : Int)) := HMO2 hm
                      have m0 : (y.length : Int) < (x.length : Int) := by omega
                      clear HB h19 g19 hm HMO2 HLE2 hbL hb8 HMO HLE HFI HNO
                      go_wp2_with fail
                      exact ⟨⟨q + 1, _, rfl, by simp, HC.out, HB2, trivial⟩, by simp only [intOf]; have := HC.out; omega⟩
                    · have HB2 : Hid (Best L s.data.toList (q + 1) (b8 : Int)) := HLE2 (by omega)
                      have m0 : ¬ (y.length : Int) < (x.length : Int) := by omega
                      clear HB h19 g19 hm HMO2 HLE2 hbL hb8 HMO HLE HFI HNO
                      go_wp2_with fail
                      exact ⟨⟨q + 1, _, rfl, by simp, HC.out, HB2, trivial⟩, by simp only [intOf]; have := HC.out; omega⟩
                · have HB2 : Hid (Best L s.data.toList (q + 1) b9) := HNO.out fun h => he h.2
                  have e1 : ((s.extract 0 x.length).toList == x) = false := by rw [hext]; simpa using he
                  clear HB h19 he hl hext
                  go_wp2_with fail
                  exact ⟨⟨q + 1, _, rfl, by simp, HC.out, HB2, trivial⟩, by simp only [intOf]; have := HC.out; omega⟩
              · have HB2 : Hid (Best L s.data.toList (q + 1) b9) := HNO.out fun h => hl (by have := h.1; rw [HG.out] at this; exact this)
                have l0 : ¬ (x.length : Int) ≤ (k : Int) := by omega
                clear HB h19 hl hext
                go_wp2_with fail
                exact ⟨⟨q + 1, _, rfl, by simp, HC.out, HB2, trivial⟩, by simp only [intOf]; have := HC.out; omega⟩
            · obtain rfl : q = N := by omega
              have q0 : ¬ (q : Int) < (q : Int) := by omega
              clear hc hq
              rcases HEND.out _ HB.out with ⟨rfl, h⟩ | ⟨b8, rfl, hbL, h⟩
              · have HX : Hid (lon (lkp L) s.data.toList s.size = none) := h
                clear h HB
                go_wp2_with fail
                go_ret3
                exact ⟨by rw [FindPost, HX.out]; rfl, Below.refl _ _⟩
              · obtain ⟨a, rfl, c0, c1⟩ := HCE.out b8 hbL
                have r0 : ¬ (b8 : Int) < 0 := by omega
                have r1 : (0 : Int) ≤ (b8 : Int) := by omega
                have r2 : (b8 : Int) < (q : Int) := by have := HN.out; omega
                generalize (L[b8]'hbL).1 = y at c0 h
                generalize (L[b8]'hbL).2 = n at c1 h
                have HX : Hid (lon (lkp L) s.data.toList s.size = some (n, y.length)) := h
                have c3 : wr.cell? ⟨(a.add (b8 * 2)).block, (a.add (b8 * 2)).off + 1, none⟩ = some (.int .i64 n) := by
                  show wr.cell? ((a.add (b8 * 2)).add 1) = _
                  rw [Addr.add_add]
                  exact c1
                clear h HB hbL
                go_wp2_with fail
                go_quiet (fail)
                have kZ : Below wr.heap.size wr (wr.drewN nq) := below_drewN (Below.refl _ wr) nq
                go_wp2_with fail
                go_ret3
                exact ⟨by rw [FindPost, HX.out]; rfl, kZ⟩
        · clear hd
          go_wp2_with fail
          go_loopw [8, 9, 10] (fun bv iv _ w2 => ∃ (q : Nat) (b9 : Int), bv = .int .i64 b9 ∧ iv = .int .i64 (q : Int) ∧ q ≤ N ∧ Hid (Best L s.data.toList q b9) ∧ w2 = wr) (fun _ iv _ _ => N + 1 - (intOf iv).toNat)
          case atStart => exact ⟨0, -1, rfl, rfl, Nat.zero_le _, .inl ⟨rfl, fun j h hj => absurd hj (Nat.not_lt_zero _)⟩, rfl⟩
          case round =>
            obtain ⟨q, b9, rfl, rfl, hq, HB, rfl⟩ := hrel
            by_cases hc : q < N
            · have hqL : q < L.length := by rw [HN.out]; exact hc
              obtain ⟨a, rfl, c0, -⟩ := HCE.out q hqL
              have h19 := HLK.out _ (List.getElem_mem hqL)
              have HNO : Hid (¬ Mt s.data.toList (L[q]'hqL).1 → Best L s.data.toList (q + 1) b9) := best_no hqL HB.out
              have HFI : Hid (b9 = -1 → Mt s.data.toList (L[q]'hqL).1 → Best L s.data.toList (q + 1) (q : Int)) := fun e h => best_first hqL (by rw [← e]; exact HB.out) h
              have HMO : Hid (∀ b (hb : b < L.length), b9 = (b : Int) → Mt s.data.toList (L[q]'hqL).1 → L[b].1.length < (L[q]'hqL).1.length → Best L s.data.toList (q + 1) (q : Int)) := fun b hb e h hl => best_more hqL hb (by rw [← e]; exact HB.out) h hl
              have HLE : Hid (∀ b (hb : b < L.length), b9 = (b : Int) → (L[q]'hqL).1.length ≤ L[b].1.length → Best L s.data.toList (q + 1) (b : Int)) := fun b hb e hl => best_less hqL hb (by rw [← e]; exact HB.out) hl
              generalize (L[q]'hqL).1 = x at c0 h19 HNO HFI HMO HLE
              have q0 : (q : Int) < (N : Int) := by omega
              have q1 : (0 : Int) ≤ (q : Int) := by omega
              have q2 : (q : Int) + 1 ≤ 9223372036854775807 := by omega
              have HC : Hid (q < N) := hc
              have hext : (s.extract 0 x.length).toList = s.data.toList.take x.length := by rw [ext_take]; simp [ByteArray.toList_eq]
              clear hc hq hqL
              by_cases hl : x.length ≤ k
              · have l0 : (x.length : Int) ≤ (k : Int) := by omega
                have l1 : (x.length : Int) ≤ (s.size : Int) := by have := HGS.out; omega
                have l2 : (0 : Int) ≤ (x.length : Int) := by omega
                by_cases he : s.data.toList.take x.length = x
                · have HMt : Hid (Mt s.data.toList x) := ⟨by rw [HG.out]; exact hl, he⟩
                  have e1 : ((s.extract 0 x.length).toList == x) = true := by rw [hext]; simpa using he
                  clear he hl hext
                  rcases HB.out with ⟨rfl, -⟩ | ⟨b8, rfl, hb8, hbL, -, -⟩
                  · have HB2 : Hid (Best L s.data.toList (q + 1) (q : Int)) := HFI.out rfl HMt.out
                    clear HB h19
                    go_wp2_with fail
                    exact ⟨⟨q + 1, _, rfl, by simp, HC.out, HB2, trivial⟩, by simp only [intOf]; have := HC.out; omega⟩
                  · obtain ⟨a', ea, c2, -⟩ := HCE.out b8 hbL
                    cases ea
                    have r0 : ¬ (b8 : Int) < 0 := by omega
                    have r1 : (0 : Int) ≤ (b8 : Int) := by omega
                    have r2 : (b8 : Int) < (N : Int) := by have := HC.out; omega
                    have HMO2 := HMO.out b8 hbL rfl HMt.out
                    have HLE2 := HLE.out b8 hbL rfl
                    have g19 := HLK.out _ (List.getElem_mem hbL)
                    generalize (L[b8]'hbL).1 = y at c2 HMO2 HLE2 g19
                    by_cases hm : y.length < x.length
                    · have HB2 : Hid (Best L s.data.toList (q + 1) (q : Int)) := HMO2 hm
                      have m0 : (y.length : Int) < (x.length : Int) := by omega
                      clear HB h19 g19 hm HMO2 HLE2 hbL hb8 HMO HLE HFI HNO
                      go_wp2_with fail
                      exact ⟨⟨q + 1, _, rfl, by simp, HC.out, HB2, trivial⟩, by simp only [intOf]; have := HC.out; omega⟩
                    · have HB2 : Hid (Best L s.data.toList (q + 1) (b8 : Int)) := HLE2 (by omega)
                      have m0 : ¬ (y.length : Int) < (x.length : Int) := by omega
                      clear HB h19 g19 hm HMO2 HLE2 hbL hb8 HMO HLE HFI HNO
                      go_wp2_with fail
                      exact ⟨⟨q + 1, _, rfl, by simp, HC.out, HB2, trivial⟩, by simp only [intOf]; have := HC.out; omega⟩
                · have HB2 : Hid (Best L s.data.toList (q + 1) b9) := HNO.out fun h => he h.2
                  have e1 : ((s.extract 0 x.length).toList == x) = false := by rw [hext]; simpa using he
                  clear HB h19 he hl hext
                  go_wp2_with fail
                  exact ⟨⟨q + 1, _, rfl, by simp, HC.out, HB2, trivial⟩, by simp only [intOf]; have := HC.out; omega⟩
              · have HB2 : Hid (Best L s.data.toList (q + 1) b9) := HNO.out fun h => hl (by have := h.1; rw [HG.out] at this; exact this)
                have l0 : ¬ (x.length : Int) ≤ (k : Int) := by omega
                clear HB h19 hl hext
                go_wp2_with fail
                exact ⟨⟨q + 1, _, rfl, by simp, HC.out, HB2, trivial⟩, by simp only [intOf]; have := HC.out; omega⟩
            · obtain rfl : q = N := by omega
              have q0 : ¬ (q : Int) < (q : Int) := by omega
              clear hc hq
              rcases HEND.out _ HB.out with ⟨rfl, h⟩ | ⟨b8, rfl, hbL, h⟩
              · have HX : Hid (lon (lkp L) s.data.toList s.size = none) := h
                clear h HB
                go_wp2_with fail
                go_ret3
                exact ⟨by rw [FindPost, HX.out]; rfl, Below.refl _ _⟩
              · obtain ⟨a, rfl, c0, c1⟩ := HCE.out b8 hbL
                have r0 : ¬ (b8 : Int) < 0 := by omega
                have r1 : (0 : Int) ≤ (b8 : Int) := by omega
                have r2 : (b8 : Int) < (q : Int) := by have := HN.out; omega
                generalize (L[b8]'hbL).1 = y at c0 h
                generalize (L[b8]'hbL).2 = n at c1 h
                have HX : Hid (lon (lkp L) s.data.toList s.size = some (n, y.length)) := h
                have c3 : wr.cell? ⟨(a.add (b8 * 2)).block, (a.add (b8 * 2)).off + 1, none⟩ = some (.int .i64 n) := by
                  show wr.cell? ((a.add (b8 * 2)).add 1) = _
                  rw [Addr.add_add]
                  exact c1
                clear h HB hbL
                go_wp2_with fail
                go_quiet (fail)
                have kZ : Below wr.heap.size wr (wr.drewN nq) := below_drewN (Below.refl _ wr) nq
                go_wp2_with fail
                go_ret3
                exact ⟨by rw [FindPost, HX.out]; rfl, kZ⟩
      · have q0 : ¬ (k : Int) < (s.size : Int) := by omega
        go_wp2_with fail
        go_loopw [8, 9, 10] (fun bv iv _ w2 => ∃ (q : Nat) (b9 : Int), bv = .int .i64 b9 ∧ iv = .int .i64 (q : Int) ∧ q ≤ N ∧ Hid (Best L s.data.toList q b9) ∧ w2 = wr) (fun _ iv _ _ => N + 1 - (intOf iv).toNat)
        case atStart => exact ⟨0, -1, rfl, rfl, Nat.zero_le _, .inl ⟨rfl, fun j h hj => absurd hj (Nat.not_lt_zero _)⟩, rfl⟩
        case round =>
          obtain ⟨q, b9, rfl, rfl, hq, HB, rfl⟩ := hrel
          by_cases hc : q < N
          · have hqL : q < L.length := by rw [HN.out]; exact hc
            obtain ⟨a, rfl, c0, -⟩ := HCE.out q hqL
            have h19 := HLK.out _ (List.getElem_mem hqL)
            have HNO : Hid (¬ Mt s.data.toList (L[q]'hqL).1 → Best L s.data.toList (q + 1) b9) := best_no hqL HB.out
            have HFI : Hid (b9 = -1 → Mt s.data.toList (L[q]'hqL).1 → Best L s.data.toList (q + 1) (q : Int)) := fun e h => best_first hqL (by rw [← e]; exact HB.out) h
            have HMO : Hid (∀ b (hb : b < L.length), b9 = (b : Int) → Mt s.data.toList (L[q]'hqL).1 → L[b].1.length < (L[q]'hqL).1.length → Best L s.data.toList (q + 1) (q : Int)) := fun b hb e h hl => best_more hqL hb (by rw [← e]; exact HB.out) h hl
            have HLE : Hid (∀ b (hb : b < L.length), b9 = (b : Int) → (L[q]'hqL).1.length ≤ L[b].1.length → Best L s.data.toList (q + 1) (b : Int)) := fun b hb e hl => best_less hqL hb (by rw [← e]; exact HB.out) hl
            generalize (L[q]'hqL).1 = x at c0 h19 HNO HFI HMO HLE
            have q0 : (q : Int) < (N : Int) := by omega
            have q1 : (0 : Int) ≤ (q : Int) := by omega
            have q2 : (q : Int) + 1 ≤ 9223372036854775807 := by omega
            have HC : Hid (q < N) := hc
            have hext : (s.extract 0 x.length).toList = s.data.toList.take x.length := by rw [ext_take]; simp [ByteArray.toList_eq]
            clear hc hq hqL
            by_cases hl : x.length ≤ k
            · have l0 : (x.length : Int) ≤ (k : Int) := by omega
              have l1 : (x.length : Int) ≤ (s.size : Int) := by have := HGS.out; omega
              have l2 : (0 : Int) ≤ (x.length : Int) := by omega
              by_cases he : s.data.toList.take x.length = x
              · have HMt : Hid (Mt s.data.toList x) := ⟨by rw [HG.out]; exact hl, he⟩
                have e1 : ((s.extract 0 x.length).toList == x) = true := by rw [hext]; simpa using he
                clear he hl hext
                rcases HB.out with ⟨rfl, -⟩ | ⟨b8, rfl, hb8, hbL, -, -⟩
                · have HB2 : Hid (Best L s.data.toList (q + 1) (q : Int)) := HFI.out rfl HMt.out
                  clear HB h19
                  go_wp2_with fail
                  exact ⟨⟨q + 1, _, rfl, by simp, HC.out, HB2, trivial⟩, by simp only [intOf]; have := HC.out; omega⟩
                · obtain ⟨a', ea, c2, -⟩ := HCE.out b8 hbL
                  cases ea
                  have r0 : ¬ (b8 : Int) < 0 := by omega
                  have r1 : (0 : Int) ≤ (b8 : Int) := by omega
                  have r2 : (b8 : Int) < (N : Int) := by have := HC.out; omega
                  have HMO2 := HMO.out b8 hbL rfl HMt.out
                  have HLE2 := HLE.out b8 hbL rfl
                  have g19 := HLK.out _ (List.getElem_mem hbL)
                  generalize (L[b8]'hbL).1 = y at c2 HMO2 HLE2 g19
                  by_cases hm : y.length < x.length
                  · have HB2 : Hid (Best L s.data.toList (q + 1) (q : Int)) := HMO2 hm
                    have m0 : (y.length : Int) < (x.length : Int) := by omega
                    clear HB h19 g19 hm HMO2 HLE2 hbL hb8 HMO HLE HFI HNO
                    go_wp2_with fail
                    exact ⟨⟨q + 1, _, rfl, by simp, HC.out, HB2, trivial⟩, by simp only [intOf]; have := HC.out; omega⟩
                  · have HB2 : Hid (Best L s.data.toList (q + 1) (b8 : Int)) := HLE2 (by omega)
                    have m0 : ¬ (y.length : Int) < (x.length : Int) := by omega
                    clear HB h19 g19 hm HMO2 HLE2 hbL hb8 HMO HLE HFI HNO
                    go_wp2_with fail
                    exact ⟨⟨q + 1, _, rfl, by simp, HC.out, HB2, trivial⟩, by simp only [intOf]; have := HC.out; omega⟩
              · have HB2 : Hid (Best L s.data.toList (q + 1) b9) := HNO.out fun h => he h.2
                have e1 : ((s.extract 0 x.length).toList == x) = false := by rw [hext]; simpa using he
                clear HB h19 he hl hext
                go_wp2_with fail
                exact ⟨⟨q + 1, _, rfl, by simp, HC.out, HB2, trivial⟩, by simp only [intOf]; have := HC.out; omega⟩
            · have HB2 : Hid (Best L s.data.toList (q + 1) b9) := HNO.out fun h => hl (by have := h.1; rw [HG.out] at this; exact this)
              have l0 : ¬ (x.length : Int) ≤ (k : Int) := by omega
              clear HB h19 hl hext
              go_wp2_with fail
              exact ⟨⟨q + 1, _, rfl, by simp, HC.out, HB2, trivial⟩, by simp only [intOf]; have := HC.out; omega⟩
          · obtain rfl : q = N := by omega
            have q0 : ¬ (q : Int) < (q : Int) := by omega
            clear hc hq
            rcases HEND.out _ HB.out with ⟨rfl, h⟩ | ⟨b8, rfl, hbL, h⟩
            · have HX : Hid (lon (lkp L) s.data.toList s.size = none) := h
              clear h HB
              go_wp2_with fail
              go_ret3
              exact ⟨by rw [FindPost, HX.out]; rfl, Below.refl _ _⟩
            · obtain ⟨a, rfl, c0, c1⟩ := HCE.out b8 hbL
              have r0 : ¬ (b8 : Int) < 0 := by omega
              have r1 : (0 : Int) ≤ (b8 : Int) := by omega
              have r2 : (b8 : Int) < (q : Int) := by have := HN.out; omega
              generalize (L[b8]'hbL).1 = y at c0 h
              generalize (L[b8]'hbL).2 = n at c1 h
              have HX : Hid (lon (lkp L) s.data.toList s.size = some (n, y.length)) := h
              have c3 : wr.cell? ⟨(a.add (b8 * 2)).block, (a.add (b8 * 2)).off + 1, none⟩ = some (.int .i64 n) := by
                show wr.cell? ((a.add (b8 * 2)).add 1) = _
                rw [Addr.add_add]
                exact c1
              clear h HB hbL
              go_wp2_with fail
              go_quiet (fail)
              have kZ : Below wr.heap.size wr (wr.drewN nq) := below_drewN (Below.refl _ wr) nq
              go_wp2_with fail
              go_ret3
              exact ⟨by rw [FindPost, HX.out]; rfl, kZ⟩
end Go.Proofs.YtecboaocoobjgaaGreatDoor.Db
