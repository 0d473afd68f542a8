/- Frames: same; counts of idle signs. -/
import Derived.Test.YtfoddooehanemaaFu
namespace Go.Proofs.Ytfoddooehanemaa.Fv
set_option linter.unusedVariables false
set_option linter.unusedSimpArgs false
open Go.RowKit Lib0 Kb Fa Fb Fc Fm Fe Ff Fg Fj Fk Fu
theorem own_form {w : World} {B n : Nat} {v : Value} {xs : List Value} (o : w.ownsRow B 9 1 v n xs) : ∃ a c, v = .slice a n c ∧ ∀ j u, xs[j]? = some u → ∃ ad, a = some ad ∧ w.cell? (ad.add j) = some u := by
  rcases o.2 with ⟨rfl, rfl⟩ | ⟨g, cap, cur, rfl, h3, h4, h5⟩
  · refine ⟨none, 0, rfl, fun j u hj => ?_⟩
    have h1 := (List.getElem?_eq_some_iff.1 hj).1
    have h2 := o.1
    omega
  · exact ⟨some ⟨g, 0, none⟩, cap, rfl, fun j u hj => ⟨_, rfl, o.cells rfl j u hj⟩⟩
set_option maxRecDepth 100000 in
theorem same_eq {w : World} {Ba Bb : Nat} {va vb : Value} {ls : List (List UInt8)} (ha : w.ownsRow Ba 9 1 va ls.length (strs ls)) (hb : w.ownsRow Bb 9 1 vb ls.length (strs ls)) (hl : ls.length ≤ 8796093022208) :
    Calls Try.prog 31 #[va, vb] w fun e w' => e = .returned (.bool true) ∧ Below w.heap.size w w' := by
  obtain ⟨a, ca, rfl, hca⟩ := own_form ha
  obtain ⟨b, cb, rfl, hcb⟩ := own_form hb
  have HA : Hid (∀ j u, (strs ls)[j]? = some u → ∃ ad, a = some ad ∧ w.cell? (ad.add j) = some u) := hca
  have HB : Hid (∀ j u, (strs ls)[j]? = some u → ∃ ad, b = some ad ∧ w.cell? (ad.add j) = some u) := hcb
  have HS : Hid ((strs ls).length = ls.length) := strs_length ls
  clear hca hcb ha hb
  go_enter Try.func31, Try.ntmps31
  go_wp2
  go_loopw [5] (fun iv wr => ∃ k : Nat, iv = .int .i64 (k : Int) ∧ k ≤ ls.length ∧ Below w.heap.size w wr) (fun iv _ => ls.length - (intOf iv).toNat)
  case atStart => exact ⟨0, rfl, Nat.zero_le _, Below.refl _ _⟩
  case round =>
    obtain ⟨k, rfl, hk, hbw⟩ := hrel
    by_cases hc : k < ls.length
    · have hsk : k < (strs ls).length := by rw [HS.out]; exact hc
      obtain ⟨ad, rfl, c1⟩ := HA.out k _ (List.getElem?_eq_getElem hsk)
      obtain ⟨bd, rfl, c2⟩ := HB.out k _ (List.getElem?_eq_getElem hsk)
      have e1 : ∃ l : List UInt8, (strs ls)[k] = .string ⟨l.toArray⟩ := ⟨ls[k], by simp [strs, str]⟩
      obtain ⟨l, hl2⟩ := e1
      rw [hl2] at c1 c2
      have d1 : _ := (hbw.cell (World.block_lt_of_cell? w _ c1)).trans c1
      have d2 : _ := (hbw.cell (World.block_lt_of_cell? w _ c2)).trans c2
      have q0 : (k : Int) < (ls.length : Int) := by omega
      have q1 : (0 : Int) ≤ (k : Int) := by omega
      have q2 : (k : Int) + 1 ≤ 9223372036854775807 := by omega
      have HBW : Hid (Below w.heap.size w wr) := hbw
      have HK : Hid (k < ls.length) := hc
      clear c1 c2 hbw hl2 hsk HA HB hc hk hl
      go_wp2
      go_quiet (fail)
      go_wp2
      refine ⟨⟨k + 1, by simp, HK.out, below_drewN HBW.out _⟩, ?_⟩
      simp only [intOf]
      have := HK.out
      omega
    · have q0 : ¬ (k : Int) < (ls.length : Int) := by omega
      go_wp2
      go_ret
      exact ⟨rfl, hbw⟩
/-- idle signs counted ahead -/
def addI (n : Nat) (x : M) : M := ⟨x.st, n + x.idle, x.out⟩
theorem opn_addI (h m : Nat) (n : Nat) (x : M) (l : List UInt8) : opn h m (addI n x) l = addI n (opn h m x l) := by
  unfold opn
  split
  · rfl
  · split
    · simp [addI]; omega
    · rfl
theorem stp_addI (h m : Nat) (n : Nat) (x : M) (c : UInt8) : stp h m (addI n x) c = addI n (stp h m x c) := by
  obtain ⟨st, i, out⟩ := x
  cases st with
  | hdr l =>
    show (if l.length + 1 < wid h then (⟨.hdr (l ++ [c]), n + i, out⟩ : M) else opn h m (addI n ⟨.hdr l, i, out⟩) (l ++ [c])) = addI n (if l.length + 1 < wid h then ⟨.hdr (l ++ [c]), i, out⟩ else opn h m ⟨.hdr l, i, out⟩ (l ++ [c]))
    split
    · rfl
    · exact opn_addI h m n _ _
  | bod k l =>
    show (if l.length + 1 < k then (⟨.bod k (l ++ [c]), n + i, out⟩ : M) else ⟨.hdr [], n + i, out ++ [l ++ [c]]⟩) = addI n (if l.length + 1 < k then ⟨.bod k (l ++ [c]), i, out⟩ else ⟨.hdr [], i, out ++ [l ++ [c]]⟩)
    split <;> rfl
  | brk e => rfl
theorem run_addI (h m : Nat) (n : Nat) : ∀ (b : List UInt8) (x : M), run h m (addI n x) b = addI n (run h m x b)
  | [], x => rfl
  | c :: b, x => by rw [run_cons, stp_addI, run_addI h m n b, run_cons]
theorem run_idle (h m : Nat) (st : St) (i : Nat) (o : List (List UInt8)) (b : List UInt8) : run h m ⟨st, i, o⟩ b = ⟨(run h m ⟨st, 0, o⟩ b).st, i + (run h m ⟨st, 0, o⟩ b).idle, (run h m ⟨st, 0, o⟩ b).out⟩ := by
  have := run_addI h m i b ⟨st, 0, o⟩
  rw [show addI i ⟨st, 0, o⟩ = ⟨st, i, o⟩ by simp [addI]] at this
  exact this
end Go.Proofs.Ytfoddooehanemaa.Fv
