/- The laws' own digits, of raw numbers. -/
import Derived.Test.YtbdkflfgmdcciaaKg
import Derived.Test.YtbdkflfgmdcciaaPick
import Derived.Test.YtbdkflfgmdcciaaSl
namespace Go.Proofs.Ytbdkflfgmdcciaa.Dg
set_option linter.unusedVariables false
open Go.RowKit Lib0 Kp Kb Kd Ki Kg Pick Sl
def dg (z : List Int) (i : Nat) : Nat := if i < z.length then (pickOf (z.getD i 0) 10).toNat else i % 10
theorem dg_lt (z : List Int) (i : Nat) : dg z i < 10 := by
  unfold dg
  split
  · have := pick_lo (z.getD i 0) 10 (by omega)
    have := pick_hi (z.getD i 0) 10 (by omega)
    omega
  · exact Nat.mod_lt _ (by omega)
def dl (z : List Int) (n : Nat) : List UInt8 := (List.range n).map fun i => UInt8.ofNat (48 + dg z i)
theorem dl_length (z : List Int) (n : Nat) : (dl z n).length = n := by simp [dl]
theorem dl_succ (z : List Int) (n : Nat) : dl z (n + 1) = dl z n ++ [UInt8.ofNat (48 + dg z n)] := by simp [dl, List.range_succ]
theorem dl_dig (z : List Int) (n : Nat) : (dl z n).all dig = true := by
  rw [List.all_eq_true]
  intro c hc
  obtain ⟨i, _, rfl⟩ := List.mem_map.1 hc
  exact (dig_one _ (dg_lt z i)).1
def ds (z : List Int) (n : Nat) : ByteArray := ⟨(dl z n).toArray⟩
theorem ds_size (z : List Int) (n : Nat) : (ds z n).size = n := by
  show (dl z n).toArray.size = n
  simp [dl]
theorem ds_ad (z : List Int) (n : Nat) : ad (ds z n) = true := by
  unfold ad ds
  exact dl_dig z n
theorem ds_step {z : List Int} {k : Nat} {D : ByteArray} (h : D.data.toList = dl z k) : (D ++ ⟨#[UInt8.ofNat (48 + dg z k)]⟩).data.toList = dl z (k + 1) := by
  rw [app_list, h, dl_succ]
set_option maxRecDepth 100000 in
set_option maxHeartbeats 1600000 in
theorem digits_raw (z : List Int) (v : Value) (n : Nat) (w : World) (hz : Lies w v z) (hl : z.length ≤ 1048576) (hn : n ≤ 100) :
    Calls Try.prog 32 #[v, .int .i64 (n : Int)] w fun e w' => e = .returned (.string (ds z n)) ∧ Below w.heap.size w w' := by
  obtain ⟨ob, cap, hv⟩ : ∃ ob cap, v = .slice ob z.length cap := by
    rcases hz with ⟨rfl, rfl⟩ | ⟨a, cap, rfl, _⟩
    · exact ⟨none, 0, rfl⟩
    · exact ⟨some a, cap, rfl⟩
  have HZ : Hid (Lies w v z) := hz
  clear hz
  subst hv
  obtain ⟨N, HN, hN⟩ : ∃ N : Nat, Hid (z.length = N) ∧ N ≤ 1048576 := ⟨_, rfl, hl⟩
  rw [HN.out]
  go_enter Try.func32, Try.ntmps32
  go_wp2
  go_loopw [5, 6] (fun s i wr => ∃ (k : Nat) (D : ByteArray), k ≤ n ∧ i = .int .i64 (k : Int) ∧ s = .string D ∧ D.size ≤ 100 ∧ Hid (D.data.toList = dl z k) ∧ Below w.heap.size w wr) (fun _ i _ => 101 - (intOf i).toNat)
  case atStart => exact ⟨0, ⟨#[]⟩, Nat.zero_le _, rfl, rfl, Nat.zero_le _, rfl, Below.refl _ _⟩
  case round =>
    obtain ⟨k, D, hk, rfl, rfl, hD, HD, bw⟩ := hrel
    rename World => w9
    by_cases hlt : k < n
    · have hlt' : (k : Int) < n := by omega
      have HD1 : Hid (D.size = k) := by
        have := congrArg List.length HD.out
        rw [dl_length] at this; exact this
      obtain ⟨d, Hd, hd⟩ : ∃ d : Nat, Hid (dg z k = d) ∧ d < 10 := ⟨_, rfl, dg_lt z k⟩
      have HS := ds_step HD.out
      rw [Hd.out] at HS
      have cv := conv_new w9 d hd
      obtain ⟨B, HB, hB⟩ : ∃ B : ByteArray, Hid ((⟨#[UInt8.ofNat (48 + d)]⟩ : ByteArray) = B) ∧ B.size ≤ 1 := ⟨_, rfl, Nat.le_refl _⟩
      rw [HB.out] at cv HS
      have HS2 : Hid ((D ++ B).data.toList = dl z (k + 1)) := HS
      have hDB : (D ++ B).size ≤ 100 := by rw [ByteArray.size_append]; have := HD1.out; omega
      have ew : IntKind.u8.wrap (48 + (d : Int)) = 48 + (d : Int) := wrap_u8 _ (by omega) (by omega)
      have hb2 := keepB bw (below_one w9 (Obj.cells #[.int .u8 (48 + (d : Int))] 5))
      clear HS
      by_cases hkN : k < N
      · have hkN' : (k : Int) < N := by omega
        have hzk : k < z.length := by rw [HN.out]; exact hkN
        rcases HZ.out with ⟨_, h0⟩ | ⟨a, cap', ev, _, _, hc, hwf⟩
        · rw [h0] at hzk; exact absurd hzk (by simp)
        · have eob : ob = some a := by injection ev
          subst eob
          have ck : w9.cell? (a.add k) = some (.int .i64 z[k]) := (bw.cell (World.block_lt_of_cell? w _ (hc k hzk))).trans (hc k hzk)
          have hwk := hwf _ (List.getElem_mem hzk)
          have bk : -9223372036854775808 ≤ z[k] ∧ z[k] ≤ 9223372036854775807 := by
            simp [Lit.wf, IntKind.min, IntKind.max, IntKind.signed, IntKind.bits] at hwk
            omega
          have pk := fun y => pick_any z[k] 10 y bk.1 bk.2 (by omega) (by omega)
          have ed : pickOf z[k] 10 = (d : Int) := by
            have := Hd.out
            unfold dg at this
            rw [if_pos hzk, List.getD_eq_getElem?_getD, List.getElem?_eq_getElem hzk, Option.getD_some] at this
            have := pick_lo z[k] 10 (by omega)
            omega
          rw [ed] at pk
          generalize z[k] = Z at *
          clear hc hwf ev hwk
          go_wp2_with fail
          refine (pk _).mono ?_
          rintro e y ⟨rfl, rfl⟩
          go_wp2
          go_round
          case rel => exact ⟨k + 1, D ++ B, by omega, by go_num, rfl, hDB, HS2, hb2⟩
          case measure => simp [intOf]; omega
      · have hkN' : ¬ (k : Int) < N := by omega
        have ed : (k : Int) % 10 = (d : Int) := by
          have := Hd.out
          unfold dg at this
          rw [if_neg (by rw [HN.out]; exact hkN)] at this
          omega
        go_wp2
        go_round
        case rel => exact ⟨k + 1, D ++ B, by omega, by go_num, rfl, hDB, HS2, hb2⟩
        case measure => simp [intOf]; omega
    · have hlt' : ¬ (k : Int) < n := by omega
      obtain rfl : k = n := by omega
      have HE : Hid (D = ds z k) := by
        show _ = _
        have := HD.out
        cases D
        simp only [ds, ByteArray.mk.injEq]
        apply Array.toList_inj.1
        simpa using this
      go_wp2
      go_ret
      exact ⟨by rw [HE.out]; rfl, bw⟩
end Go.Proofs.Ytbdkflfgmdcciaa.Dg
