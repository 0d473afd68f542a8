/- Fields of a message: the value of the first with a number: the program's and the document's. -/
import Derived.Test.YtbekjlinnbmpgaaKr
namespace Go.Proofs.Ytbekjlinnbmpgaa.Fs
set_option linter.unusedVariables false
open Go.RowKit Lib0 Kp Kb Kd Kt Ks Kw Ku Kx
structure Fv where
  num : Int
  val : ByteArray
  ko : Option Addr
  kn : Nat
  kc : Nat
def At (w : World) (a : Addr) (i : Nat) (f : Fv) : Prop :=
  w.cell? (a.add (i * 3)) = some (.int .i64 f.num) ∧ w.cell? ⟨(a.add (i * 3)).block, (a.add (i * 3)).off + 1, none⟩ = some (.string f.val) ∧ w.cell? ⟨(a.add (i * 3)).block, (a.add (i * 3)).off + 2, none⟩ = some (.slice f.ko f.kn f.kc)
theorem at_below {w x : World} {a : Addr} {i : Nat} {f : Fv} (h : At w a i f) (hb : Below w.heap.size w x) : At x a i f := by
  obtain ⟨h0, h1, h2⟩ := h
  exact ⟨(hb.cell (World.block_lt_of_cell? w _ h0)).trans h0, (hb.cell (World.block_lt_of_cell? w _ h1)).trans h1, (hb.cell (World.block_lt_of_cell? w _ h2)).trans h2⟩
/-- the value is a slice of these fields -/
def Lies (w : World) (v : Value) (z : List Fv) : Prop :=
  ∃ (o : Option Addr) (cap : Nat), v = .slice o z.length cap ∧ ∀ i (h : i < z.length), ∃ a : Addr, o = some a ∧ At w a i z[i] ∧ z[i].val.size ≤ 4194304
theorem lies_below {w x : World} {v : Value} {z : List Fv} (h : Lies w v z) (hb : Below w.heap.size w x) : Lies x v z := by
  obtain ⟨o, cap, e, hc⟩ := h
  refine ⟨o, cap, e, fun i hi => ?_⟩
  obtain ⟨a, ea, h1, h2⟩ := hc i hi
  exact ⟨a, ea, at_below h1 hb, h2⟩
/-- the value of the first with a number -/
def lookF : List Fv → Int → ByteArray × Bool
  | [], _ => (⟨#[]⟩, false)
  | f :: z, n => if f.num == n then (f.val, true) else lookF z n
theorem lookF_hit : ∀ (z : List Fv) (n : Int) (k : Nat) (h : k < z.length), (∀ j (hj : j < k), (z[j].num == n) = false) → (z[k].num == n) = true → lookF z n = (z[k].val, true)
  | [], _, _, h, _, _ => by simp at h
  | f :: z, n, 0, _, _, hp => by simp only [List.getElem_cons_zero] at hp; simp [lookF, hp]
  | f :: z, n, k + 1, h, ha, hp => by
    have h0 := ha 0 (by omega)
    simp only [List.getElem_cons_zero] at h0
    simp only [lookF, h0, Bool.false_eq_true, if_false, List.getElem_cons_succ] at *
    exact lookF_hit z n k (by simpa using h) (fun j hj => by have := ha (j + 1) (by omega); simpa using this) hp
theorem lookF_none : ∀ (z : List Fv) (n : Int), (∀ j (hj : j < z.length), (z[j].num == n) = false) → lookF z n = (⟨#[]⟩, false)
  | [], _, _ => rfl
  | f :: z, n, ha => by
    have h0 := ha 0 (by simp)
    simp only [List.getElem_cons_zero] at h0
    simp only [lookF, h0, Bool.false_eq_true, if_false]
    exact lookF_none z n (fun j hj => by have := ha (j + 1) (by simpa using hj); simpa using this)
def lkV (z : List Fv) (n : Int) : Value := .tuple #[.string (lookF z n).1, .bool (lookF z n).2]
set_option maxRecDepth 100000 in
set_option maxHeartbeats 800000 in
theorem value_any (m : ByteArray) (v : Value) (z : List Fv) (n : Int) (w : World) (hz : Lies w v z) (hl : z.length ≤ 1048576) :
    Calls Try.prog 17 #[.agg #[.string m, v], .int .i64 n] w fun e w' => e = .returned (lkV z n) ∧ Below w.heap.size w w' := by
  obtain ⟨o, cap, hv, hc⟩ := hz
  subst hv
  obtain ⟨N, HN, hN⟩ : ∃ N : Nat, Hid (z.length = N) ∧ N ≤ 1048576 := ⟨_, rfl, hl⟩
  have HC : Hid (∀ i (h : i < z.length), ∃ a : Addr, o = some a ∧ At w a i z[i] ∧ z[i].val.size ≤ 4194304) := hc
  clear hc hl
  rw [HN.out]
  have m0 := h1_0 w (Obj.cells #[.string m, .slice o N cap] 24)
  have b0 := below_one w (Obj.cells #[.string m, .slice o N cap] 24)
  go_enter Try.func17, Try.ntmps17
  go_wp2
  generalize w.alloc (Obj.cells #[.string m, .slice o N cap] 24) = W at *
  generalize hg : w.heap.size = g at *
  obtain ⟨c0, c1, f0, f1⟩ := held2 (Below.refl _ _) m0
  go_loop [6] (fun i => ∃ k : Nat, k ≤ N ∧ i = .int .i64 (k : Int) ∧ Hid (∀ j (hj : j < k) (h : j < z.length), (z[j].num == n) = false)) (fun i => N - (intOf i).toNat)
  case atStart => exact ⟨0, Nat.zero_le _, rfl, fun j hj => by omega⟩
  case round =>
    obtain ⟨k, hk, rfl, HA⟩ := hrel
    by_cases hlt : k < N
    · have hlt' : (k : Int) < N := by omega
      have hkz : k < z.length := by rw [HN.out]; exact hlt
      obtain ⟨a, rfl, hat, hvs⟩ := HC.out k hkz
      have hat2 : At W a k z[k] := at_below hat (by rw [hg]; exact b0)
      obtain ⟨d0, d1, d2⟩ := hat2
      have HS : Hid (∀ hp : (z[k].num == n) = false, ∀ j (hj : j < k + 1) (h : j < z.length), (z[j].num == n) = false) := fun hp j hj h => by
        rcases Nat.lt_or_ge j k with h1 | h1
        · exact HA.out j h1 h
        · obtain rfl : j = k := by omega
          exact hp
      have HH : Hid ((z[k].num == n) = true → lkV z n = .tuple #[.string z[k].val, .bool true]) := fun hp => by
        rw [lkV, lookF_hit z n k hkz (fun j hj => HA.out j hj (by omega)) hp]
      clear HC hat
      generalize z[k] = f at *
      obtain ⟨Z, X, ko, kn, kc⟩ := f
      cases hp : (Z == n)
      · go_wp2
        go_round
        case rel => exact ⟨k + 1, by omega, by go_num, HS.out hp⟩
        case measure => simp [intOf]; omega
      · have hZ : Z = n := by simpa using hp
        subst hZ
        have HV := HH.out (by simp)
        have HV' : Hid _ := HV
        clear HV
        go_wp2
        exact bodyPost_ret (v := .tuple #[.string X, .bool true]) (by simp [results, Try.results17, go_sem]) rfl ⟨congrArg Ending.returned HV'.out.symm, b0⟩
    · have hlt' : ¬ (k : Int) < N := by omega
      have HV : Hid (lkV z n = .tuple #[.string ⟨#[]⟩, .bool false]) := by
        show _ = _
        rw [lkV, lookF_none z n (fun j hj => HA.out j (by have := HN.out; omega) hj)]
      go_wp2
      exact bodyPost_ret (v := .tuple #[.string ⟨#[]⟩, .bool false]) (by simp [results, Try.results17, go_sem]) rfl ⟨congrArg Ending.returned HV.out.symm, b0⟩
set_option maxRecDepth 100000 in
set_option maxHeartbeats 800000 in
theorem valueOf_any (m : ByteArray) (v : Value) (z : List Fv) (n : Int) (w : World) (hz : Lies w v z) (hl : z.length ≤ 1048576) :
    Calls Try.prog 21 #[.agg #[.string m, v], .int .i64 n] w fun e w' => e = .returned (lkV z n) ∧ Below w.heap.size w w' := by
  obtain ⟨o, cap, hv, hc⟩ := hz
  subst hv
  obtain ⟨N, HN, hN⟩ : ∃ N : Nat, Hid (z.length = N) ∧ N ≤ 1048576 := ⟨_, rfl, hl⟩
  have HC : Hid (∀ i (h : i < z.length), ∃ a : Addr, o = some a ∧ At w a i z[i] ∧ z[i].val.size ≤ 4194304) := hc
  clear hc hl
  rw [HN.out]
  have m0 := h1_0 w (Obj.cells #[.string m, .slice o N cap] 24)
  have b0 := below_one w (Obj.cells #[.string m, .slice o N cap] 24)
  go_enter Try.func21, Try.ntmps21
  go_wp2
  generalize w.alloc (Obj.cells #[.string m, .slice o N cap] 24) = W at *
  generalize hg : w.heap.size = g at *
  obtain ⟨c0, c1, f0, f1⟩ := held2 (Below.refl _ _) m0
  go_loopw [11] (fun i wr => ∃ k : Nat, k ≤ N ∧ i = .int .i64 (k : Int) ∧ Hid (∀ j (hj : j < k) (h : j < z.length), (z[j].num == n) = false) ∧ Below g w wr) (fun i _ => N - (intOf i).toNat)
  case atStart => exact ⟨0, Nat.zero_le _, rfl, fun j hj => by omega, b0⟩
  case round =>
    obtain ⟨k, hk, rfl, HA, bw⟩ := hrel
    rename World => w9
    by_cases hlt : k < N
    · have hlt' : (k : Int) < N := by omega
      have hkz : k < z.length := by rw [HN.out]; exact hlt
      obtain ⟨a, rfl, hat, hvs⟩ := HC.out k hkz
      have hat2 : At w9 a k z[k] := at_below hat (by rw [hg]; exact bw)
      obtain ⟨d0, d1, d2⟩ := hat2
      have HS : Hid (∀ hp : (z[k].num == n) = false, ∀ j (hj : j < k + 1) (h : j < z.length), (z[j].num == n) = false) := fun hp j hj h => by
        rcases Nat.lt_or_ge j k with h1 | h1
        · exact HA.out j h1 h
        · obtain rfl : j = k := by omega
          exact hp
      have HH : Hid ((z[k].num == n) = true → lkV z n = .tuple #[.string z[k].val, .bool true]) := fun hp => by
        rw [lkV, lookF_hit z n k hkz (fun j hj => HA.out j hj (by omega)) hp]
      clear HC hat
      generalize z[k] = f at *
      obtain ⟨Z, X, ko, kn, kc⟩ := f
      have bw2 : Below g w (w9.alloc (Obj.cells #[.int .i64 Z, .string X, .slice ko kn kc] 32)) := bw.alloc (by have := bw.size; omega) _
      cases hp : (Z == n)
      · go_wp2
        go_round
        case rel => exact ⟨k + 1, by omega, by go_num, HS.out hp, bw2⟩
        case measure => simp [intOf]; omega
      · have hZ : Z = n := by simpa using hp
        subst hZ
        have HV := HH.out (by simp)
        have HV' : Hid _ := HV
        clear HV
        go_wp2
        exact bodyPost_ret (v := .tuple #[.string X, .bool true]) (by simp [results, Try.results21, go_sem]) rfl ⟨congrArg Ending.returned HV'.out.symm, bw2⟩
    · have hlt' : ¬ (k : Int) < N := by omega
      have HV : Hid (lkV z n = .tuple #[.string ⟨#[]⟩, .bool false]) := by
        show _ = _
        rw [lkV, lookF_none z n (fun j hj => HA.out j (by have := HN.out; omega) hj)]
      go_wp2
      exact bodyPost_ret (v := .tuple #[.string ⟨#[]⟩, .bool false]) (by simp [results, Try.results21, go_sem]) rfl ⟨congrArg Ending.returned HV.out.symm, bw⟩
end Go.Proofs.Ytbekjlinnbmpgaa.Fs
