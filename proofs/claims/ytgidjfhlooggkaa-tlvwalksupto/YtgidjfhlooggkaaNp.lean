/- Nodes are read: plain. -/
import Derived.Test.YtgidjfhlooggkaaGg
import Derived.Test.YtgidjfhlooggkaaNt
namespace Go.Proofs.Ytgidjfhlooggkaa.Np
set_option linter.unusedVariables false
set_option linter.unusedSimpArgs false
open Go.RowKit Kb Ga Gb Gc Gd Ge Gf Gg Nt
inductive NR where
  | ok (ts : List Tr) (k b : Nat) : NR
  | bad (why at_ : Int) : NR
inductive OR where
  | ok (t : Tr) (k b : Nat) : OR
  | bad (why at_ : Int) : OR
def mt : ByteArray := ⟨#[]⟩
/-- behind a tag and a length: the content -/
def conR (rec : Nat → Nat → Nat → Nat → NR) (s : ByteArray) (t n : Int) (k e d b : Nat) : OR :=
  if n ≤ (e : Int) - (k : Int) then
    if mkd t then match rec k (k + n.toNat) (d + 1) (b + 1) with
      | .bad y a => .bad y a
      | .ok ks _ b2 => .ok (.mk t mt ks) (k + n.toNat) b2
    else .ok (.mk t (s.extract k (k + n.toNat)) []) (k + n.toNat) (b + 1)
  else .bad 10 e
def headR (rec : Nat → Nat → Nat → Nat → NR) (s : ByteArray) (k e d b : Nat) : OR :=
  match tagR s k e with
  | .bad y a => .bad y a
  | .ok t k1 => match lenR s k1 e with
    | .bad y a => .bad y a
    | .ok n k2 => conR rec s t n k2 e d b
def oneR (rec : Nat → Nat → Nat → Nat → NR) (s : ByteArray) (k e d b : Nat) : OR :=
  if b < 500 then if d ≤ 8 then headR rec s k e d b else .bad 92 k else .bad 93 k
def andR (t : Tr) : NR → NR
  | .bad y a => .bad y a
  | .ok ts k b => .ok (t :: ts) k b
def thenR (r : OR) (go : Nat → Nat → NR) : NR := match r with
  | .bad y a => .bad y a
  | .ok t k b => andR t (go k b)
def nodesR (s : ByteArray) : Nat → Nat → Nat → Nat → Nat → NR
  | 0, k, e, d, b => .ok [] k b
  | f + 1, k, e, d, b => if k < e then thenR (oneR (fun k e d b => nodesR s f k e d b) s k e d b) (fun k' b' => nodesR s f k' e d b') else .ok [] k b
/-- what was read ahead -/
def preR (l : List Tr) : NR → NR
  | .bad y a => .bad y a
  | .ok ts k b => .ok (l ++ ts) k b
theorem preR_nil (r : NR) : preR [] r = r := by cases r <;> simp [preR]
theorem preR_and (l : List Tr) (t : Tr) (r : NR) : preR l (andR t r) = preR (l ++ [t]) r := by cases r <;> simp [preR, andR]
theorem tagR_ok {s : ByteArray} {k : Nat} {e t : Int} {k1 : Nat} (h : tagR s k e = .ok t k1) : k < k1 ∧ (k1 : Int) ≤ e ∧ k1 ≤ k + 3 ∧ 0 < t ∧ t ≤ 16777215 := by
  have A := byt_bd s k
  have B := byt_bd s (k + 1)
  have C := byt_bd s (k + 2)
  unfold tagR at h
  repeat' split at h
  all_goals (cases h <;> omega)
theorem lenR_ok {s : ByteArray} {k : Nat} {e n : Int} {k1 : Nat} (h : lenR s k e = .ok n k1) : k < k1 ∧ (k1 : Int) ≤ e ∧ k1 ≤ k + 3 ∧ 0 ≤ n ∧ n ≤ 9999 := by
  have A := byt_bd s k
  have B := byt_bd s (k + 1)
  have C := byt_bd s (k + 2)
  unfold lenR at h
  repeat' split at h
  all_goals (cases h <;> omega)
theorem conR_ok {rec : Nat → Nat → Nat → Nat → NR} (hrec : ∀ k e d b ts k' b', b ≤ 500 → rec k e d b = .ok ts k' b' → b ≤ b' ∧ b' ≤ 500) {s : ByteArray} {t n : Int} {k e d b : Nat} (hb : b < 500) (h0 : 0 ≤ n) (hk : k ≤ e) {tr : Tr} {k' b' : Nat} (h : conR rec s t n k e d b = .ok tr k' b') : k' = k + n.toNat ∧ k' ≤ e ∧ b < b' ∧ b' ≤ 500 := by
  unfold conR at h
  split at h
  · split at h
    · cases e : rec k (k + n.toNat) (d + 1) (b + 1) with
      | bad y a => rw [e] at h; exact absurd h (by simp)
      | ok ks k3 b2 =>
        rw [e] at h
        have := hrec _ _ _ _ _ _ _ (by omega) e
        injection h with h1 h2 h3
        omega
    · injection h with h1 h2 h3
      omega
  · exact absurd h (by simp)
theorem oneR_ok {rec : Nat → Nat → Nat → Nat → NR} (hrec : ∀ k e d b ts k' b', b ≤ 500 → rec k e d b = .ok ts k' b' → b ≤ b' ∧ b' ≤ 500) {s : ByteArray} {k e d b : Nat} {tr : Tr} {k' b' : Nat} (h : oneR rec s k e d b = .ok tr k' b') : k + 2 ≤ k' ∧ k' ≤ e ∧ b < b' ∧ b' ≤ 500 := by
  unfold oneR at h
  split at h
  · rename_i hb
    split at h
    · unfold headR at h
      cases e1 : tagR s k e with
      | bad y a => rw [e1] at h; exact absurd h (by simp)
      | ok t k1 =>
        rw [e1] at h
        simp only at h
        have a1 := tagR_ok e1
        cases e2 : lenR s k1 e with
        | bad y a => rw [e2] at h; exact absurd h (by simp)
        | ok n k2 =>
          rw [e2] at h
          have a2 := lenR_ok e2
          have a3 := conR_ok hrec hb a2.2.2.2.1 (by omega) h
          omega
    · exact absurd h (by simp)
  · exact absurd h (by simp)
theorem nodesR_ok {s : ByteArray} : ∀ (f k e d b : Nat) (ts : List Tr) (k' b' : Nat), b ≤ 500 → nodesR s f k e d b = .ok ts k' b' → b ≤ b' ∧ b' ≤ 500
  | 0, k, e, d, b, ts, k', b', hb, h => by
    unfold nodesR at h
    injection h with h1 h2 h3
    omega
  | f + 1, k, e, d, b, ts, k', b', hb, h => by
    unfold nodesR at h
    split at h
    · cases e1 : oneR (fun k e d b => nodesR s f k e d b) s k e d b with
      | bad y a => rw [e1] at h; exact absurd h (by simp [thenR])
      | ok t k1 b1 =>
        rw [e1] at h
        simp only [thenR] at h
        have a1 := oneR_ok (fun k e d b ts k' b' hb h => nodesR_ok f k e d b ts k' b' hb h) e1
        cases e2 : nodesR s f k1 e d b1 with
        | bad y a => rw [e2] at h; exact absurd h (by simp [andR])
        | ok ts2 k2 b2 =>
          rw [e2] at h
          simp only [andR] at h
          have a2 := nodesR_ok f k1 e d b1 ts2 k2 b2 a1.2.2.2 e2
          injection h with h1 h2 h3
          omega
    · injection h with h1 h2 h3
      omega
theorem nodesR_end {s : ByteArray} : ∀ (f k e d b : Nat) (ts : List Tr) (k' b' : Nat), k ≤ e → e - k ≤ f → nodesR s f k e d b = .ok ts k' b' → k' = e
  | 0, k, e, d, b, ts, k', b', hk, hf, h => by
    unfold nodesR at h
    injection h with h1 h2 h3
    omega
  | f + 1, k, e, d, b, ts, k', b', hk, hf, h => by
    unfold nodesR at h
    split at h
    · cases e1 : oneR (fun k e d b => nodesR s f k e d b) s k e d b with
      | bad y a => rw [e1] at h; exact absurd h (by simp [thenR])
      | ok t k1 b1 =>
        rw [e1] at h
        simp only [thenR] at h
        have a1 := oneR_ok (fun k e d b ts k' b' hb h => nodesR_ok f k e d b ts k' b' hb h) e1
        cases e2 : nodesR s f k1 e d b1 with
        | bad y a => rw [e2] at h; exact absurd h (by simp [andR])
        | ok ts2 k2 b2 =>
          rw [e2] at h
          simp only [andR] at h
          have a2 := nodesR_end f k1 e d b1 ts2 k2 b2 (by omega) (by omega) e2
          injection h with h1 h2 h3
          omega
    · injection h with h1 h2 h3
      omega
theorem nodesR_step {s : ByteArray} {f k e d b : Nat} (h : k < e) : nodesR s (f + 1) k e d b = thenR (oneR (nodesR s f) s k e d b) (fun k' b' => nodesR s f k' e d b') := by
  conv => lhs; unfold nodesR
  rw [if_pos h]
theorem nodesR_done {s : ByteArray} {f k e d b : Nat} (h : ¬ k < e) : nodesR s f k e d b = .ok [] k b := by
  cases f with
  | zero => unfold nodesR; rfl
  | succ f => unfold nodesR; rw [if_neg h]
end Go.Proofs.Ytgidjfhlooggkaa.Np
