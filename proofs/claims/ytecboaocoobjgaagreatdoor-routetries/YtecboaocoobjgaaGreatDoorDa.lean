/- The document's list of prefixes: digits, place. -/
import Derived.Test.YtecboaocoobjgaaGreatDoorRa
import Derived.BigQuiet
namespace Go.Proofs.YtecboaocoobjgaaGreatDoor.Da
set_option linter.unusedVariables false
set_option linter.unusedSimpArgs false
open Go.RowKit Go.Shelf Lib0 Kb Rp Rw Rs Li Mj Tj Ra
attribute [local go_sem] Oper.semAt_some
theorem digitsr_any (s : ByteArray) (a b : Int) (w : World) (hs : s.size ≤ maxLen) : Calls Tryz.prog 34 #[.string s, .int .i64 a, .int .i64 b] w fun e w' => e = .returned (.bool (s.data.toList.all isD && inN (s.size : Int) a b)) ∧ w' = w := by
  have hN : (s.size : Int) ≤ 9223372036854775807 := by have := hs; simp only [maxLen] at this; omega
  obtain ⟨R, HR⟩ : ∃ R, Hid ((s.data.toList.all isD && inN (s.size : Int) a b) = R) := ⟨_, rfl⟩
  rw [HR.out]
  clear hs
  go_enter Tryz.func34, Tryz.ntmps34
  go_wp2_with fail
  go_loopw [7] (fun iv wr => ∃ k : Nat, iv = .int .i64 (k : Int) ∧ k ≤ s.size ∧ (∀ j (h : j < s.size), j < k → isD (s[j]'h) = true) ∧ wr = w) (fun iv _ => s.size + 1 - (intOf iv).toNat)
  case atStart => exact ⟨0, rfl, Nat.zero_le _, fun j h hj => absurd hj (Nat.not_lt_zero _), rfl⟩
  case round =>
    obtain ⟨k, rfl, hk, hall, rfl⟩ := hrel
    have HA : Hid (∀ j (h : j < s.size), j < k → isD (s[j]'h) = true) := hall
    clear hall
    by_cases hc : k < s.size
    · have q0 : (k : Int) < (s.size : Int) := by omega
      have q1 : (0 : Int) ≤ (k : Int) := by omega
      have q2 : (k : Int) + 1 ≤ 9223372036854775807 := by omega
      have HC : Hid (k < s.size) := hc
      clear hk
      cases hd : isD (s[k]'hc) with
      | true =>
        have HX : Hid (∀ j (h : j < s.size), j < k + 1 → isD (s[j]'h) = true) := by
          intro j h hj
          by_cases hjk : j < k
          · exact HA.out j h hjk
          · have : j = k := by omega
            subst this
            exact hd
        rw [isD_iff] at hd
        have d0 : ¬ ((s[k]'hc).toNat : Int) < 48 := by omega
        have d1 : ¬ (57 : Int) < ((s[k]'hc).toNat : Int) := by omega
        clear hd
        go_wp2_with fail
        refine ⟨⟨k + 1, by simp, HC.out, HX.out, trivial⟩, ?_⟩
        simp only [intOf]
        have := HC.out
        omega
      | false =>
        have HX : Hid (R = false) := by show _ = _; rw [← HR.out, str_all s isD k hc hd]; rfl
        by_cases d0 : ((s[k]'hc).toNat : Int) < 48
        · clear hd
          go_wp2_with fail
          go_ret
          exact ⟨by rw [HX.out]; rfl, rfl⟩
        · have d1 : (57 : Int) < ((s[k]'hc).toNat : Int) := by
            simp [isD] at hd; omega
          clear hd
          go_wp2_with fail
          go_ret
          exact ⟨by rw [HX.out]; rfl, rfl⟩
    · have q0 : ¬ (k : Int) < (s.size : Int) := by omega
      have HX : Hid (R = inN (s.size : Int) a b) := by show _ = _; rw [← HR.out, str_every s isD (fun j h => HA.out j h (by omega))]; rfl
      by_cases e0 : a ≤ (s.size : Int)
      · by_cases e1 : (s.size : Int) ≤ b
        · have HY : Hid (R = true) := by show _ = _; rw [HX.out]; simp [inN]; omega
          go_wp2_with fail
          go_ret
          exact ⟨by rw [HY.out]; rfl, rfl⟩
        · have HY : Hid (R = false) := by show _ = _; rw [HX.out]; simp [inN]; omega
          go_wp2_with fail
          go_ret
          exact ⟨by rw [HY.out]; rfl, rfl⟩
      · have HY : Hid (R = false) := by show _ = _; rw [HX.out]; simp [inN]; omega
        go_wp2_with fail
        go_ret
        exact ⟨by rw [HY.out]; rfl, rfl⟩
theorem str_of (s : ByteArray) : ∃ z : K, s = sB z := ⟨s.data.toList, by cases s; simp [sB]⟩
/- A row of what is laid: two cells each. -/
def RowL (w : World) (v : Value) (L : LT) : Prop :=
  ∃ (o : Option Addr) (cap : Nat), v = .slice o L.length cap ∧ L.length ≤ 9223372036854775807 ∧ ∀ i (h : i < L.length), ∃ a : Addr, o = some a ∧ w.cell? (a.add (i * 2)) = some (sv L[i].1) ∧ w.cell? (a.add (i * 2 + 1)) = some (.int .i64 L[i].2)
set_option maxRecDepth 100000 in
set_option maxHeartbeats 1600000 in
theorem place_any (w : World) (b : Nat) (v : Value) (L : LT) (s : ByteArray) (hv : w.cell? ⟨b, 0, none⟩ = some v) (hr : RowL w v L) (hS : Srt L) : Calls Tryz.prog 35 #[.pointer (some ⟨b, 0, none⟩), .string s] w fun e w' => e = .returned (.tuple #[.int .i64 (place L s.data.toList : Int), .bool (isAt L s.data.toList)]) ∧ Below w.heap.size w w' := by
  obtain ⟨z, rfl⟩ := str_of s
  rw [show (sB z).data.toList = z from rfl]
  obtain ⟨o, cap, rfl, hn, hcell⟩ := hr
  obtain ⟨N, HN⟩ : ∃ N, Hid (L.length = N) := ⟨_, rfl⟩
  rw [HN.out] at hv hn
  have HCE : Hid (∀ i (h : i < L.length), ∃ a : Addr, o = some a ∧ w.cell? (a.add (i * 2)) = some (sv L[i].1) ∧ w.cell? (a.add (i * 2 + 1)) = some (.int .i64 L[i].2)) := hcell
  have HPL : Hid (place L z ≤ N) := by show _ ≤ _; rw [← HN.out]; exact place_le _ _
  obtain ⟨P, HP⟩ : ∃ P, Hid (place L z = P) := ⟨_, rfl⟩
  obtain ⟨T, HT⟩ : ∃ T, Hid (isAt L z = T) := ⟨_, rfl⟩
  rw [HT.out, HP.out]
  rw [HP.out] at HPL
  clear hcell
  go_enter Tryz.func35, Tryz.ntmps35
  go_wp2_with fail
  go_loopw [6] (fun iv wr => ∃ k : Nat, iv = .int .i64 (k : Int) ∧ k ≤ P ∧ wr = w) (fun iv _ => P + 1 - (intOf iv).toNat)
  case atStart => exact ⟨0, rfl, Nat.zero_le _, rfl⟩
  case round =>
    obtain ⟨k, rfl, hk, rfl⟩ := hrel
    by_cases hc : k < P
    · have hkN : k < L.length := by rw [HN.out]; have := HPL.out; omega
      obtain ⟨a, rfl, c0, -⟩ := HCE.out k hkN
      have c1 := place_before L z k hkN (by rw [HP.out]; exact hc)
      generalize (L[k]'hkN).1 = x at c0 c1
      have q0 : (k : Int) < (N : Int) := by have := HPL.out; omega
      have q1 : (0 : Int) ≤ (k : Int) := by omega
      have q2 : (k : Int) + 1 ≤ 9223372036854775807 := by have := HPL.out; omega
      have HC : Hid (k < P) := hc
      clear hkN hc hk
      go_wp2_with fail
      exact ⟨⟨k + 1, by simp, HC.out, trivial⟩, by simp only [intOf]; have := HC.out; omega⟩
    · obtain rfl : k = P := by omega
      by_cases hkN : k < L.length
      · obtain ⟨a, rfl, c0, -⟩ := HCE.out k hkN
        have c1 : lt (L[k]'hkN).1 z = false := by
          have := place_at L z (by rw [HP.out]; exact hkN)
          simp only [HP.out] at this
          exact this
        have hT : T = ((L[k]'hkN).1 == z) := by
          have := isAt_iff hS z
          rw [HT.out] at this
          simp only [HP.out] at this
          rw [Bool.eq_iff_iff, this]
          simp [hkN]
        generalize (L[k]'hkN).1 = x at c0 c1 hT
        rw [HN.out] at hkN
        have q0 : (k : Int) < (N : Int) := by omega
        have q1 : (0 : Int) ≤ (k : Int) := by omega
        have HTT : Hid (T = (x == z)) := hT
        clear hc hk hkN hT
        obtain ⟨EB, HEB⟩ : ∃ EB, (x == z) = EB := ⟨_, rfl⟩
        rw [HEB] at HTT
        go_wp2_with fail
        go_quiet (fail)
        have kZ : Below wr.heap.size wr (wr.drewN nq) := below_drewN (Below.refl _ wr) nq
        go_wp2_with fail
        go_ret2
        exact ⟨by rw [HTT.out]; rfl, kZ⟩
      · rw [HN.out] at hkN
        have q0 : ¬ (k : Int) < (N : Int) := by omega
        have HTT : Hid (T = false) := by
          show _ = _
          have := isAt_iff hS z
          rw [HT.out] at this
          simp only [HP.out] at this
          cases T with
          | false => rfl
          | true => obtain ⟨h, -⟩ := this.1 rfl; rw [HN.out] at h; exact absurd h hkN
        have HQ5 : Hid (decide (k < N) = false) := by show _ = _; simpa using hkN
        clear hc hk hkN
        go_wp2_with fail
        have q5 : decide (k < N) = false := HQ5.out
        go_quiet (fail)
        have kZ : Below wr.heap.size wr (wr.drewN nq) := below_drewN (Below.refl _ wr) nq
        go_wp2_with fail
        go_ret2
        exact ⟨by rw [HTT.out]; rfl, kZ⟩
end Go.Proofs.YtecboaocoobjgaaGreatDoor.Da
