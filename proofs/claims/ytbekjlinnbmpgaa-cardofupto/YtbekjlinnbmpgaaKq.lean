/- Tracks: the document's part. -/
import Derived.Test.YtbekjlinnbmpgaaKs
namespace Go.Proofs.Ytbekjlinnbmpgaa.Kq
set_option linter.unusedVariables false
open Go.RowKit Lib0 Kp Kb Kd Kt Ks
/-- of a month, of a service: does the j-th byte fit? -/
def fit4 (s : ByteArray) (k : Nat) : Nat → Bool
  | 0 => tk dig s k
  | 1 => tk dig s (k + 1)
  | 2 => tk d0 s (k + 2) || tk d1 s (k + 2)
  | 3 => tk d0 s (k + 2) && tk d19 s (k + 3) || tk d1 s (k + 2) && tk d02 s (k + 3)
  | _ => true
def fit3 (s : ByteArray) (k : Nat) (j : Nat) : Bool := tk dig s (k + j)
def partR (s : ByteArray) (k many : Nat) (f : Nat → Bool) : ByteArray × Int × Int :=
  if tk eqs s k then (⟨#[]⟩, k + 1, -1) else match (List.range many).find? (fun j => !f j) with
  | some j => (⟨#[]⟩, 0, k + j)
  | none => (s.extract k (k + many), k + many, -1)
def tupV (r : ByteArray × Int × Int) : Value := .tuple #[.string r.1, .int .i64 r.2.1, .int .i64 r.2.2]
theorem find_hit {f : Nat → Bool} {m i : Nat} (hi : i < m) (h : ∀ j, j < i → f j = true) (hf : f i = false) : (List.range m).find? (fun j => !f j) = some i := by
  rw [List.find?_range_eq_some]
  refine ⟨by simp [hf], by simpa using hi, fun j hj => by simp [h j hj]⟩
theorem find_none {f : Nat → Bool} {m : Nat} (h : ∀ j, j < m → f j = true) : (List.range m).find? (fun j => !f j) = none := by
  rw [List.find?_eq_none]
  intro j hj
  simp [h j (List.mem_range.1 hj)]
theorem ret3 {r r' : ByteArray × Int × Int} (h : r = r') : Ending.returned (tupV r) = .returned (tupV r') := by rw [h]
theorem eqs_at {s : ByteArray} {k : Nat} (h : k < s.size) : tk eqs s k = decide ((s[k].toNat : Int) = 61) := by
  rw [tk_in _ _ _ h, eqs, Bool.eq_iff_iff, beq_iff_eq, decide_eq_true_eq]
  constructor
  · intro hh; rw [hh]; rfl
  · intro hh
    have : s[k].toNat = (61 : UInt8).toNat := by have : (61 : UInt8).toNat = 61 := rfl; omega
    exact UInt8.toNat_inj.1 this
set_option maxRecDepth 100000 in
set_option maxHeartbeats 3200000 in
theorem part_eq (s : ByteArray) (k : Nat) (m : Int) (f : Nat → Bool) (M : Nat) (w : World) (hs : s.size ≤ 37) (h : tk eqs s k = true) :
    Calls Try.prog 38 #[.string s, .int .i64 (k : Int), .int .i64 m] w fun e w' => e = .returned (tupV (partR s k M f)) ∧ w' = w := by
  have hk := tk_lt h
  have h1 : (s[k].toNat : Int) = 61 := by rw [eqs_at hk] at h; simpa using h
  rw [partR, if_pos h]
  clear h
  go_enter Try.func38, Try.ntmps38
  go_wp2
  exact bodyPost_ret (v := .tuple #[.string ⟨#[]⟩, .int .i64 ((k : Int) + 1), .int .i64 (-1)]) (by simp [results, Try.results38, go_sem]) rfl ⟨rfl, rfl⟩
theorem nofit_3 {s : ByteArray} {k j : Nat} (h : s.size ≤ k + j) (hj : j < 3) : fit3 s k j = false := tk_end _ _ _ h
theorem nofit_4 {s : ByteArray} {k j : Nat} (h : s.size ≤ k + j) (hj : j < 4) : fit4 s k j = false := by
  match j, hj with
  | 0, _ => exact tk_end _ _ _ h
  | 1, _ => exact tk_end _ _ _ h
  | 2, _ => simp only [fit4]; rw [tk_end _ _ _ h, tk_end _ _ _ h]; rfl
  | 3, _ => simp only [fit4]; rw [tk_end d19 _ _ h, tk_end d02 _ _ h]; simp
theorem tk_dig {s : ByteArray} {k : Nat} (h : k < s.size) : tk dig s k = dig s[k] := tk_in _ _ _ h
set_option maxRecDepth 100000 in
set_option maxHeartbeats 3200000 in
theorem part3_any (s : ByteArray) (k : Nat) (w : World) (hs : s.size ≤ 37) (hk : k ≤ s.size) (h : tk eqs s k = false) :
    Calls Try.prog 38 #[.string s, .int .i64 (k : Int), .int .i64 3] w fun e w' => e = .returned (tupV (partR s k 3 (fit3 s k))) ∧ w' = w := by
  have He : Hid (tk eqs s k = false) := h
  clear h
  by_cases hlt : k < s.size
  · have h1 : ((s[k].toNat : Int) == 61) = false := by have := He.out; rw [eqs_at hlt] at this; simpa using this
    go_enter Try.func38, Try.ntmps38
    go_wp2
    go_loop [9] (fun c => ∃ i : Nat, i ≤ 3 ∧ c = .int .i64 (i : Int) ∧ k + i ≤ s.size ∧ Hid (∀ j, j < i → fit3 s k j = true)) (fun c => 4 - (intOf c).toNat)
    case atStart => exact ⟨0, by omega, rfl, by omega, fun j hj => by omega⟩
    case round =>
      obtain ⟨i, hi, rfl, hki, HF⟩ := hrel
      by_cases h3 : i < 3
      · have h3' : (i : Int) < 3 := by omega
        obtain ⟨q, Hq, hq⟩ : ∃ q : Nat, Hid (k + i = q) ∧ (k : Int) + i = q := ⟨k + i, rfl, by omega⟩
        by_cases hqs : q < s.size
        · have hqs' : (q : Int) < s.size := by omega
          have hqs2 : ¬ (s.size : Int) ≤ q := by omega
          go_wp2_with fail
          refine (digit_any s[q] _).mono ?_
          rintro ee w' ⟨rfl, rfl⟩
          cases hp : dig s[q]
          · have HR : Hid (partR s k 3 (fit3 s k) = (⟨#[]⟩, 0, (q : Int))) := by
              show _ = _
              rw [partR, He.out, find_hit h3 HF.out (by rw [fit3, Hq.out, tk_dig hqs]; exact hp)]
              simp only [Bool.false_eq_true, if_false, Prod.mk.injEq, true_and]
              exact hq
            go_wp2
            exact bodyPost_ret (v := .tuple #[.string ⟨#[]⟩, .int .i64 0, .int .i64 (q : Int)]) (by simp [results, Try.results38, go_sem]) rfl ⟨by rw [HR.out]; rfl, rfl⟩
          · go_wp2
            go_round
            case rel => exact ⟨i + 1, by omega, by go_num, by have := Hq.out; omega, fun j hj => by
              rcases Nat.lt_or_ge j i with h | h
              · exact HF.out j h
              · obtain rfl : j = i := by omega
                rw [fit3, Hq.out, tk_dig hqs]; exact hp⟩
            case measure => simp [intOf]; omega
        · have hqs' : (s.size : Int) ≤ q := by omega
          have HR : Hid (partR s k 3 (fit3 s k) = (⟨#[]⟩, 0, (s.size : Int))) := by
            show _ = _
            rw [partR, He.out, find_hit h3 HF.out (nofit_3 (by have := Hq.out; omega) h3)]
            simp only [Bool.false_eq_true, if_false, Prod.mk.injEq, true_and]
            have := Hq.out; omega
          go_wp2
          exact bodyPost_ret (v := .tuple #[.string ⟨#[]⟩, .int .i64 0, .int .i64 (s.size : Int)]) (by simp [results, Try.results38, go_sem]) rfl ⟨by rw [HR.out]; rfl, rfl⟩
      · obtain rfl : i = 3 := by omega
        obtain ⟨q, Hq, hq⟩ : ∃ q : Nat, Hid (k + 3 = q) ∧ (k : Int) + 3 = q := ⟨k + 3, rfl, by omega⟩
        have hqs' : (q : Int) ≤ s.size := by have := Hq.out; omega
        have hkq : (k : Int) ≤ q := by have := Hq.out; omega
        have HR : Hid (partR s k 3 (fit3 s k) = (s.extract k q, (q : Int), -1)) := by
          show _ = _
          rw [partR, He.out, find_none HF.out, ← Hq.out]
          simp
        clear hki
        go_wp2
        exact bodyPost_ret (v := .tuple #[.string (s.extract k q), .int .i64 (q : Int), .int .i64 (-1)]) (by simp [results, Try.results38, go_sem]) rfl ⟨by rw [HR.out]; rfl, rfl⟩
  · have q1 : (s.size : Int) = (k : Int) := by omega
    have HR : Hid (partR s k 3 (fit3 s k) = (⟨#[]⟩, 0, (k : Int))) := by
      show _ = _
      rw [partR, He.out, find_hit (i := 0) (by omega) (fun j hj => by omega) (nofit_3 (by omega) (by omega))]
      simp
    have hk37 : (k : Int) ≤ 37 := by omega
    clear hlt hk hs
    go_enter Try.func38, Try.ntmps38
    go_wp2
    go_loop [9] (fun c => c = .int .i64 0) (fun _ => 0)
    case atStart => rfl
    case round =>
      obtain rfl := hrel
      go_wp2
      exact bodyPost_ret (v := .tuple #[.string ⟨#[]⟩, .int .i64 0, .int .i64 (k : Int)]) (by simp [results, Try.results38, go_sem]) rfl ⟨by rw [HR.out]; rfl, rfl⟩
end Go.Proofs.Ytbekjlinnbmpgaa.Kq
