/- Fix, heap.Push, Remove. -/
import Derived.Test.YtmaikkhemhonhaaDm
namespace Go.Proofs.Ytmaikkhemhonhaa.Dn
set_option linter.unusedVariables false
set_option linter.unusedSimpArgs false
open Go.RowKit Go.Maps Lib0 Kb Xp Da Db Dc Dd De Dh Di Dx Dj Dk Dl Dm
attribute [local go_sem] Oper.semAt_some
theorem fix_any {w : World} {base b : Nat} {bc : Array Value} {av : Value} {A : List Rc} (h : HpM w base b bc av A) (i : Nat) (hi : i < A.length) : Calls Try.prog 38 #[hv b, .int .i64 (i : Int)] w fun e w' => e = .returned (.tuple #[]) ∧ ∃ A', PU w base b bc av A A' A.length w' ∧ (FixOk (kN A) A.length i → Hp (kN A') A.length) := by
  have HH : Hid (HpM w base b bc av A) := h
  have HI : Hid (i < A.length) := hi
  have c4 := h.cell4.1
  obtain ⟨o, cap, eav, -⟩ := own_form h.row
  rw [eav] at c4
  have ml := m_len w b _ _ _ c4
  have HLN : Hid (Calls Try.prog 80 #[.slice o A.length cap] w fun e w' => e = .returned (.int .i64 (A.length : Int)) ∧ w' = w) := len_any av A.length cap o w
  have HD : Hid (Calls Try.prog 51 #[hv b, .int .i64 (i : Int), .int .i64 (A.length : Int)] w fun e w' => ∃ r A', e = .returned (.bool r) ∧ PU w base b bc av A A' A.length w' ∧ Mvd A A' A.length i r) := down_any h i A.length hi (Nat.le_refl _)
  unfold hv at *
  clear h hi eav
  generalize hN : A.length = N at *
  have HN : Hid (A.length = N) := hN
  clear hN
  go_enter Try.func38, Try.ntmps38
  go_wp2_with fail
  refine HLN.out.mono ?_
  rintro e y ⟨rfl, rfl⟩
  go_wp2_with fail
  refine HD.out.mono ?_
  rintro e y2 ⟨r, A2, rfl, hp, hm⟩
  have HP : Hid (PU y base b bc av A A2 N y2) := hp
  have HM : Hid (Mvd A A2 N i r) := hm
  clear hp hm ml
  cases r
  · have HU : Hid (Calls Try.prog 52 #[hv b, .int .i64 (i : Int)] y2 fun e w' => e = .returned (.tuple #[]) ∧ ∃ A', PU y2 base b bc av A2 A' N w' ∧ (UpOk (kN A2) N i → Hp (kN A') N)) := up_any HP.out.ph.1 i N HI.out (by rw [HP.out.len, HN.out]; exact Nat.le_refl _)
    unfold hv at HU
    go_wp2_with fail
    refine HU.out.mono ?_
    rintro e y3 ⟨rfl, A3, hp3, ho3⟩
    have HP3 : Hid (PU y base b bc av A A3 N y3) := HP.out.next hp3
    have HO3 : Hid (FixOk (kN A) N i → Hp (kN A3) N) := fun h => ho3 ((HM.out h).2 rfl)
    clear hp3 ho3
    go_wp2_with fail
    go_end0
    exact ⟨rfl, A3, HP3.out, HO3.out⟩
  · go_wp2_with fail
    go_end0
    exact ⟨rfl, A2, HP.out, fun h => (HM.out h).1 rfl⟩
theorem kN_left {A : List Rc} {a : Rc} {m : Nat} (h : m < A.length) : kN (A ++ [a]) m = kN A m := by unfold kN; rw [List.getElem?_append_left h]
theorem upok_push {A : List Rc} {a : Rc} (h : Hp (kN A) A.length) : UpOk (kN (A ++ [a])) (A.length + 1) A.length := ⟨fun e e1 e2 e3 => by rw [kN_left (by omega), kN_left (by omega)]; exact h e e1 (by omega), fun e e1 e2 e3 e4 => by omega⟩
theorem hpush_any {w : World} {base b : Nat} {bc : Array Value} {av : Value} {A : List Rc} {a : Rc} {p0 : Int} (h : HpM w base b bc av A) (ha : w.heap[a.gr]? = some (.cells (rcs a p0) tR (0, 0))) (hlo : base ≤ a.gr) (hnew : ∀ c ∈ A, c.gr ≠ a.gr) (hlen : A.length < 1000000) : Calls Try.prog 40 #[hv b, .iface tP (ptr a.gr)] w fun e w' => e = .returned (.tuple #[]) ∧ ∃ A', A'.Perm (A ++ [a]) ∧ PR w base b bc A' w' ∧ (Hp (kN A) A.length → Hp (kN A') (A.length + 1)) := by
  have HP : Hid (Calls Try.prog 84 #[.pointer (some ⟨b, 4, none⟩), .iface tP (ptr a.gr)] w fun e w' => e = .returned (.tuple #[]) ∧ PR w base b bc (A ++ [a]) w') := push_any h ha hlo hnew hlen
  have mp := m_push w b
  have HLE : Hid (A.length < 1000000) := hlen
  unfold hv ptr at *
  clear h ha hlo hnew hlen
  go_enter Try.func40, Try.ntmps40
  go_wp2_with fail
  refine HP.out.mono ?_
  rintro e y ⟨rfl, av', h1, h2, h3⟩
  have HY : Hid (HpM y base b (bc.setIfInBounds 4 av') av' (A ++ [a]) ∧ KT sH w y ∧ Below base w y) := ⟨h1, h2, h3⟩
  have c4 := h1.cell4.1
  obtain ⟨o, cap, eav, -⟩ := own_form h1.row
  have hl : (A ++ [a]).length = A.length + 1 := by simp
  rw [eav, hl] at c4
  have ml := m_len y b _ _ _ c4
  have HLN : Hid (Calls Try.prog 80 #[.slice o (A.length + 1) cap] y fun e w' => e = .returned (.int .i64 ((A.length + 1 : Nat) : Int)) ∧ w' = y) := len_any av' (A.length + 1) cap o y
  have HU : Hid (Calls Try.prog 52 #[hv b, .int .i64 (A.length : Int)] y fun e w' => e = .returned (.tuple #[]) ∧ ∃ A', PU y base b (bc.setIfInBounds 4 av') av' (A ++ [a]) A' (A.length + 1) w' ∧ (UpOk (kN (A ++ [a])) (A.length + 1) A.length → Hp (kN A') (A.length + 1))) := up_any h1 A.length (A.length + 1) (Nat.lt_succ_self _) (by rw [hl]; exact Nat.le_refl _)
  have HUP : Hid (Hp (kN A) A.length → UpOk (kN (A ++ [a])) (A.length + 1) A.length) := upok_push
  unfold hv at HU
  clear h1 h2 h3 eav hl mp
  generalize hN : A.length = N at *
  have HNN : Hid (A.length = N) := hN
  clear hN
  have q0 : (N : Int) < 1000000 := by have := HLE.out; omega
  have q1 : (0 : Int) ≤ (N : Int) := by omega
  go_wp2_with fail
  refine HLN.out.mono ?_
  rintro e y2 ⟨rfl, rfl⟩
  have q2 : ((N + 1 : Nat) : Int) - 1 = (N : Int) := by omega
  go_wp2_with fail
  refine HU.out.mono ?_
  rintro e y3 ⟨rfl, A3, hp3, ho3⟩
  have HP3 : Hid (A3.Perm (A ++ [a]) ∧ PR w base b bc A3 y3 ∧ (Hp (kN A) N → Hp (kN A3) (N + 1))) := ⟨hp3.perm, ⟨av', hp3.ph.1, HY.out.2.1.trans hp3.ph.2.1, HY.out.2.2.trans hp3.ph.2.2⟩, fun h => ho3 (HUP.out h)⟩
  clear hp3 ho3
  go_wp2_with fail
  go_end0
  exact ⟨rfl, A3, by rw [HNN.out]; exact HP3.out⟩
theorem hp_fix2 {k k' : Nat → Int} {n i : Nat} (h : Hp k n) (hi : i < n) (hk : ∀ m, m < n → m ≠ i → k' m = k m) : FixOk k' n i := ⟨fun e e1 e2 e3 e4 => by rw [hk e e2 e3, hk _ (by omega) e4]; exact h e e1 e2, fun e e1 e2 e3 e4 => by
  rw [hk e e2 (by omega), hk _ (by omega) (by omega)]
  have a := h e e1 e2
  have b := h i e4 hi
  rw [e3] at a
  omega⟩
theorem last_of {A : List Rc} {a : Rc} {n : Nat} (hl : A.length = n + 1) (ha : A[n]? = some a) : A = A.take n ++ [a] := by
  have hn : n < A.length := by omega
  have e : A[n] = a := by rw [List.getElem?_eq_getElem hn] at ha; exact Option.some.inj ha
  conv => lhs; rw [← List.take_append_drop n A]
  rw [List.drop_eq_getElem_cons hn, e, List.drop_of_length_le (by omega)]
theorem kN_take {A : List Rc} {n m : Nat} (h : m < n) : kN (A.take n) m = kN A m := by unfold kN; rw [List.getElem?_take_of_lt h]
set_option maxRecDepth 100000 in
set_option maxHeartbeats 1600000 in
theorem remove_any {w : World} {base b : Nat} {bc : Array Value} {av : Value} {A : List Rc} (h : HpM w base b bc av A) (i : Nat) (hi : i < A.length) : Calls Try.prog 41 #[hv b, .int .i64 (i : Int)] w fun e w' => (∃ v, e = .returned v) ∧ ∃ A', (A' ++ [A[i]]).Perm A ∧ PR w base b bc A' w' ∧ (FixOk (kN A) A.length i → Hp (kN A') A'.length) ∧ ∃ p, w'.heap[A[i].gr]? = some (.cells (rcs A[i] p) tR (0, 0)) := by
  obtain ⟨n, hn⟩ : ∃ n, A.length = n + 1 := ⟨A.length - 1, by omega⟩
  obtain ⟨a, ha⟩ : ∃ a, A[i] = a := ⟨_, rfl⟩
  rw [ha]
  have HH : Hid (HpM w base b bc av A) := h
  have HN : Hid (A.length = n + 1) := hn
  have c4 := h.cell4.1
  obtain ⟨o, cap, eav, -⟩ := own_form h.row
  rw [eav, hn] at c4
  have ml := m_len w b _ _ _ c4
  have HLN : Hid (Calls Try.prog 80 #[.slice o (n + 1) cap] w fun e w' => e = .returned (.int .i64 ((n + 1 : Nat) : Int)) ∧ w' = w) := len_any av (n + 1) cap o w
  have q0 : ((n + 1 : Nat) : Int) - 1 = (n : Int) := by omega
  have q1 : (n : Int) ≤ 1000000 := by have := h.len; omega
  have q2 : (0 : Int) ≤ (n : Int) := by omega
  -- what Pop does at the end, whatever lies ahead of it
  have HPOP : Hid (∀ (y : World) (A3 : List Rc), PU w base b bc av A A3 (n + 1) y → A3[n]? = some a → (FixOk (kN A) A.length i → Hp (kN A3) n) → (method 237 tPA (.pointer (some ⟨b, 4, none⟩)) "Pop").run Try.prog y = .ok (83, .pointer (some ⟨b, 4, none⟩)) y ∧ Calls Try.prog 83 #[.pointer (some ⟨b, 4, none⟩)] y fun e w' => e = .returned (.iface tP (ptr a.gr)) ∧ Hid (∃ A', (A' ++ [a]).Perm A ∧ PR w base b bc A' w' ∧ (FixOk (kN A) A.length i → Hp (kN A') A'.length) ∧ ∃ p, w'.heap[a.gr]? = some (.cells (rcs a p) tR (0, 0)))) := fun y A3 hp h3 ho => by
    refine ⟨m_pop y b, ?_⟩
    have hl3 : A3.length = n + 1 := hp.len.trans hn
    have e3 := last_of hl3 h3
    have hm := hp.ph.1
    rw [e3] at hm
    refine (pop_any hm).mono ?_
    rintro e z ⟨rfl, ⟨av', k1, k2, k3⟩, k4⟩
    refine ⟨rfl, A3.take n, ?_, ⟨av', k1, hp.ph.2.1.trans k2, hp.ph.2.2.trans k3⟩, fun hA => ?_, ?_⟩
    · rw [← e3]; exact hp.perm
    · rw [List.length_take, hl3, show min n (n + 1) = n by omega]
      exact (ho hA).congr (fun m hm => kN_take hm)
    · have hr := hp.ph.1.recs n (by omega)
      have e5 : A3[n]'(by omega) = a := by rw [List.getElem?_eq_getElem (by omega)] at h3; exact Option.some.inj h3
      rw [e5] at hr
      exact ⟨n, k4.trans hr⟩
  unfold hv at *
  by_cases hin : i = n
  · subst hin
    have hA3 : A[i]? = some a := by rw [List.getElem?_eq_getElem hi, ha]
    obtain ⟨mpop, hpop⟩ := HPOP.out w A (PU.self h) hA3 (fun hA e e1 e2 => hA.edge e e1 (by omega) (by omega) (by omega))
    have HPP : Hid (Calls Try.prog 83 #[.pointer (some ⟨b, 4, none⟩)] w fun e w' => e = .returned (.iface tP (ptr a.gr)) ∧ Hid (∃ A', (A' ++ [a]).Perm A ∧ PR w base b bc A' w' ∧ (FixOk (kN A) A.length i → Hp (kN A') A'.length) ∧ ∃ p, w'.heap[a.gr]? = some (.cells (rcs a p) tR (0, 0)))) := hpop
    clear h hi hn ha hA3 hpop eav HPOP
    go_enter Try.func41, Try.ntmps41
    go_wp2_with fail
    refine HLN.out.mono ?_
    rintro e y ⟨rfl, rfl⟩
    go_wp2_with fail
    refine HPP.out.mono ?_
    rintro e z ⟨rfl, hz⟩
    go_wp2_with fail
    go_ret
    exact ⟨⟨_, rfl⟩, hz.out⟩
  · have hnA : n < A.length := by omega
    have hiN : i < n := by omega
    have HIN : Hid (i < n) := hiN
    have q3 : ((n : Int) == (i : Int)) = false := by simp; omega
    have q4 : ((n : Int) != (i : Int)) = true := by simp; omega
    have ms := m_swap w b _ _ _ c4
    have HS : Hid (Calls Try.prog 82 #[.slice o (n + 1) cap, .int .i64 (i : Int), .int .i64 (n : Int)] w fun e w' => e = .returned (.tuple #[]) ∧ PH w base b bc av (swp A i n hi hnA) w') := by
      have := swap_any h i n hi hnA hin
      rw [eav, hn] at this
      rw [eav, hn]
      exact this
    have hs1 : (swp A i n hi hnA).length = n + 1 := by rw [swp_len, hn]
    have HSL : Hid ((swp A i n hi hnA).length = n + 1) := hs1
    have hkk : ∀ m, m < n → m ≠ i → kN (swp A i n hi hnA) m = kN A m := fun m hmn hm => by
      rw [swp_kN A i n hi hnA m (by omega), if_neg (by omega), if_neg (fun e => hm e.symm)]
    have HFX : Hid (FixOk (kN A) A.length i → FixOk (kN (swp A i n hi hnA)) n i) := fun hA => ⟨fun e e1 e2 e3 e4 => by
      rw [hkk e e2 e3, hkk _ (by omega) e4]; exact hA.edge e e1 (by omega) e3 e4, fun e e1 e2 e3 e4 => by
      rw [hkk e e2 (by omega), hkk _ (by omega) (by omega)]; exact hA.gp e e1 (by omega) e3 e4⟩
    have HSN : Hid ((swp A i n hi hnA)[n]? = some a) := by
      show (swp A i n hi hnA)[n]? = some a
      rw [List.getElem?_eq_getElem (by omega), swp_get A i n hi hnA n hnA, if_pos rfl, ha]
    have HHI : Hid (i < A.length ∧ n < A.length) := ⟨hi, hnA⟩
    clear hin hiN hs1 hn hkk
    go_enter Try.func41, Try.ntmps41
    go_wp2_with fail
    refine HLN.out.mono ?_
    rintro e y ⟨rfl, rfl⟩
    go_wp2_with fail
    refine HS.out.mono ?_
    rintro e y2 ⟨rfl, hp2⟩
    have HP2 : Hid (PU y base b bc av A (swp A i n hi hnA) (n + 1) y2) := PU.swap hi hnA hp2 (by have := HIN.out; omega) (by omega)
    have HD : Hid (Calls Try.prog 51 #[.iface 87 (.pointer (some ⟨b, 4, none⟩)), .int .i64 (i : Int), .int .i64 (n : Int)] y2 fun e w' => ∃ r A', e = .returned (.bool r) ∧ PU y2 base b bc av (swp A i n hi hnA) A' n w' ∧ Mvd (swp A i n hi hnA) A' n i r) := down_any hp2.1 i n HIN.out (by rw [HSL.out]; omega)
    clear hp2 ml ms
    go_wp2_with fail
    refine HD.out.mono ?_
    rintro e y3 ⟨r, A3, rfl, hp3, hm3⟩
    have HP3 : Hid (PU y base b bc av A A3 (n + 1) y3) := HP2.out.next ⟨hp3.ph, hp3.perm, fun m hm => hp3.rest m (by omega)⟩
    have HM3 : Hid (Mvd (swp A i n hi hnA) A3 n i r) := hm3
    have HA3 : Hid (A3[n]? = some a) := (hp3.rest n (Nat.le_refl _)).trans HSN.out
    have HL3 : Hid (A3.length = n + 1) := hp3.len.trans HSL.out
    clear hp3 hm3
    cases r
    · have HU : Hid (Calls Try.prog 52 #[.iface 87 (.pointer (some ⟨b, 4, none⟩)), .int .i64 (i : Int)] y3 fun e w' => e = .returned (.tuple #[]) ∧ ∃ A', PU y3 base b bc av A3 A' n w' ∧ (UpOk (kN A3) n i → Hp (kN A') n)) := up_any HP3.out.ph.1 i n HIN.out (by rw [HL3.out]; omega)
      go_wp2_with fail
      refine HU.out.mono ?_
      rintro e y4 ⟨rfl, A4, hp4, ho4⟩
      obtain ⟨mpop, hpop⟩ := HPOP.out y4 A4 (HP3.out.next ⟨hp4.ph, hp4.perm, fun m hm => hp4.rest m (by omega)⟩) ((hp4.rest n (Nat.le_refl _)).trans HA3.out) (fun hA => ho4 ((HM3.out (HFX.out hA)).2 rfl))
      have HPP : Hid (Calls Try.prog 83 #[.pointer (some ⟨b, 4, none⟩)] y4 fun e w' => e = .returned (.iface tP (ptr a.gr)) ∧ Hid (∃ A', (A' ++ [a]).Perm A ∧ PR y base b bc A' w' ∧ (FixOk (kN A) A.length i → Hp (kN A') A'.length) ∧ ∃ p, w'.heap[a.gr]? = some (.cells (rcs a p) tR (0, 0)))) := hpop
      clear hp4 ho4 hpop
      go_wp2_with fail
      refine HPP.out.mono ?_
      rintro e z ⟨rfl, hz⟩
      go_wp2_with fail
      go_ret
      exact ⟨⟨_, rfl⟩, hz.out⟩
    · obtain ⟨mpop, hpop⟩ := HPOP.out y3 A3 HP3.out HA3.out (fun hA => (HM3.out (HFX.out hA)).1 rfl)
      have HPP : Hid (Calls Try.prog 83 #[.pointer (some ⟨b, 4, none⟩)] y3 fun e w' => e = .returned (.iface tP (ptr a.gr)) ∧ Hid (∃ A', (A' ++ [a]).Perm A ∧ PR y base b bc A' w' ∧ (FixOk (kN A) A.length i → Hp (kN A') A'.length) ∧ ∃ p, w'.heap[a.gr]? = some (.cells (rcs a p) tR (0, 0)))) := hpop
      clear hpop
      go_wp2_with fail
      refine HPP.out.mono ?_
      rintro e z ⟨rfl, hz⟩
      go_wp2_with fail
      go_ret
      exact ⟨⟨_, rfl⟩, hz.out⟩
end Go.Proofs.Ytmaikkhemhonhaa.Dn
