/- Approvals, plain and in a row; small calls. -/
import Derived.Test.YtmaikkhemhonhaaXp
import Derived.Test.YtmaikkhemhonhaaQl
import Derived.Test.YtmaikkhemhonhaaQt
import Derived.Shelf.Abstract
namespace Go.Proofs.Ytmaikkhemhonhaa.Da
set_option linter.unusedVariables false
set_option linter.unusedSimpArgs false
open Go.RowKit Go.Maps Lib0 Kb Xp
attribute [local go_sem] Oper.semAt_some
abbrev tI : TypeId := 3
abbrev tA : TypeId := 84
abbrev tS : TypeId := 98
abbrev tR : TypeId := 90
abbrev tB : TypeId := 68
abbrev tP : TypeId := 76
abbrev tG : TypeId := 66
def I64 (n : Int) : Prop := -9223372036854775808 ≤ n ∧ n ≤ 9223372036854775807
abbrev Ap := Int × Int × Int
def apx (a : Ap) : XT := (a.1, a.2.1, .int .i64 a.2.2)
def apc (L : List Ap) : List Value := gc (L.map apx)
def apv (a : Ap) : Value := .agg #[.int .i64 a.1, .int .i64 a.2.1, .int .i64 a.2.2]
theorem apc_len (L : List Ap) : (apc L).length = L.length * 3 := by simp [apc, gc_len]
theorem apc_append (L M : List Ap) : apc (L ++ M) = apc L ++ apc M := by simp [apc, gc_append]
theorem one_map (L : List Ap) : One (L.map apx) := fun x hx => by
  obtain ⟨a, -, rfl⟩ := List.mem_map.1 hx
  simp [apx, Value.oneCell']
def uS (L : List Ap) : Int := (L.map fun a => a.2.1).sum
theorem uS_append (L M : List Ap) : uS (L ++ M) = uS L + uS M := by simp [uS]
theorem uS_cons (a : Ap) (L : List Ap) : uS (a :: L) = a.2.1 + uS L := by simp [uS]
/-- amounts that may be -/
def Am (L : List Ap) : Prop := ∀ a ∈ L, 0 ≤ a.2.1 ∧ a.2.1 ≤ 999999999999 ∧ I64 a.2.2 ∧ I64 a.1
theorem Am.sum {L : List Ap} (h : Am L) : 0 ≤ uS L ∧ uS L ≤ 999999999999 * (L.length : Int) := by
  induction L with
  | nil => simp [uS]
  | cons a l ih =>
    have h1 := h a (by simp)
    have h2 := ih fun x hx => h x (by simp [hx])
    rw [uS_cons]
    simp only [List.length_cons]
    omega
theorem Am.take {L : List Ap} (h : Am L) (n : Nat) : Am (L.take n) := fun a ha => h a (List.mem_of_mem_take ha)
theorem Am.drop {L : List Ap} (h : Am L) (n : Nat) : Am (L.drop n) := fun a ha => h a (List.mem_of_mem_drop ha)
/-- ticks never fall -/
def Up (L : List Ap) : Prop := L.Pairwise fun a b => a.2.2 ≤ b.2.2
/-- how many were given ahead of a tick -/
structure Fr (L : List Ap) (t : Int) (p : Nat) : Prop where
  le : p ≤ L.length
  lo : ∀ i (h : i < L.length), i < p → L[i].2.2 < t
  hi : ∀ i (h : i < L.length), p ≤ i → t ≤ L[i].2.2
theorem Fr.drop {L : List Ap} {t : Int} {p : Nat} (h : Fr L t p) : L.filter (fun a => decide (t ≤ a.2.2)) = L.drop p := by
  conv => lhs; rw [← List.take_append_drop p L]
  rw [List.filter_append]
  have h1 : (L.take p).filter (fun a => decide (t ≤ a.2.2)) = [] := by
    rw [List.filter_eq_nil_iff]
    intro a ha
    obtain ⟨i, hi, rfl⟩ := List.getElem_of_mem ha
    rw [List.length_take] at hi
    have := h.lo i (by omega) (by omega)
    simp [List.getElem_take]; omega
  have h2 : (L.drop p).filter (fun a => decide (t ≤ a.2.2)) = L.drop p := by
    rw [List.filter_eq_self]
    intro a ha
    obtain ⟨i, hi, rfl⟩ := List.getElem_of_mem ha
    rw [List.length_drop] at hi
    have := h.hi (p + i) (by omega) (by omega)
    simpa [List.getElem_drop] using this
  rw [h1, h2, List.nil_append]
/-- the cells of a row that can be read -/
def RowA (w : World) (v : Value) (L : List Ap) : Prop :=
  ∃ (o : Option Addr) (cap : Nat), v = .slice o L.length cap ∧ ∀ i (h : i < L.length), ∃ a : Addr, o = some a ∧ w.cell? (a.add (i * 3)) = some (.int .i64 L[i].1) ∧ w.cell? (a.add (i * 3 + 1)) = some (.int .i64 L[i].2.1) ∧ w.cell? (a.add (i * 3 + 2)) = some (.int .i64 L[i].2.2)
theorem rowa_own {w : World} {base : Nat} {t : TypeId} {v : Value} {L : List Ap} (h : w.ownsRow base t 3 v L.length (apc L)) : RowA w v L := by
  have h2 : w.ownsRow base t 3 v (L.map apx).length (gc (L.map apx)) := by rw [List.length_map]; exact h
  obtain ⟨o, cap, e, hc⟩ := rowg_own h2
  rw [List.length_map] at e
  refine ⟨o, cap, e, fun i hi => ?_⟩
  have := hc i (by rw [List.length_map]; exact hi)
  simpa [apx] using this
theorem rowa_below {w x : World} {v : Value} {L : List Ap} (h : RowA w v L) (k : Below w.heap.size w x) : RowA x v L := by
  obtain ⟨o, cap, e, hc⟩ := h
  refine ⟨o, cap, e, fun i hi => ?_⟩
  obtain ⟨a, ea, c0, c1, c2⟩ := hc i hi
  have kk : ∀ p u, w.cell? p = some u → x.cell? p = some u := fun p u hp => (k.cell (World.block_lt_of_cell? w _ hp)).trans hp
  exact ⟨a, ea, kk _ _ c0, kk _ _ c1, kk _ _ c2⟩
theorem within_any (n a b : Int) (w : World) : Calls Try.prog 18 #[.int .i64 n, .int .i64 a, .int .i64 b] w fun e w' => e = .returned (.bool (decide (a ≤ n ∧ n ≤ b))) ∧ w' = w := by
  by_cases h1 : a ≤ n <;> by_cases h2 : n ≤ b
  all_goals (go_enter Try.func18, Try.ntmps18)
  all_goals go_wp2_with fail
  all_goals go_ret
  all_goals exact ⟨by simp [h1, h2], rfl⟩
def isA (n : Int) : Bool := decide (0 ≤ n ∧ n ≤ 999999999999)
theorem isAmount_any (n : Int) (w : World) : Calls Try.prog 25 #[.int .i64 n] w fun e w' => e = .returned (.bool (isA n)) ∧ w' = w := by
  have HW : Hid (∀ y, Calls Try.prog 18 #[.int .i64 n, .int .i64 0, .int .i64 999999999999] y fun e w' => e = .returned (.bool (isA n)) ∧ w' = y) := fun y => within_any n 0 999999999999 y
  generalize isA n = r at *
  go_enter Try.func25, Try.ntmps25
  go_wp2_with fail
  refine (HW.out _).mono ?_
  rintro e y ⟨rfl, rfl⟩
  go_wp2_with fail
  go_ret
  exact ⟨rfl, rfl⟩
structure Lm where
  single : Int
  count : Int
  sum : Int
  window : Int
def lmv (l : Lm) : Value := .agg #[.int .i64 l.single, .int .i64 l.count, .int .i64 l.sum, .int .i64 l.window]
def isR (l : Lm) : Bool := isA l.single && isA l.count && isA l.sum && decide (1 ≤ l.window ∧ l.window ≤ 100000)
set_option maxRecDepth 100000 in
theorem isRight_any (l : Lm) (w : World) : Calls Try.prog 23 #[lmv l] w fun e w' => e = .returned (.bool (isR l)) ∧ Below w.heap.size w w' := by
  obtain ⟨a, b, c, d⟩ := l
  have HA : Hid (∀ n y, Calls Try.prog 25 #[.int .i64 n] y fun e w' => e = .returned (.bool (isA n)) ∧ w' = y) := fun n y => isAmount_any n y
  have HW : Hid (∀ y, Calls Try.prog 18 #[.int .i64 d, .int .i64 1, .int .i64 100000] y fun e w' => e = .returned (.bool (decide (1 ≤ d ∧ d ≤ 100000))) ∧ w' = y) := fun y => within_any d 1 100000 y
  have HR : Hid (isR ⟨a, b, c, d⟩ = (isA a && isA b && isA c && decide (1 ≤ d ∧ d ≤ 100000))) := rfl
  rw [HR.out]
  unfold lmv
  cases ha : isA a <;> cases hb : isA b <;> cases hc : isA c <;> cases hd : decide (1 ≤ d ∧ d ≤ 100000)
  all_goals (have HA1 := HA.out a; have HB1 := HA.out b; have HC1 := HA.out c; have HD1 := HW.out; rw [ha] at HA1; rw [hb] at HB1; rw [hc] at HC1; rw [hd] at HD1)
  all_goals (clear ha hb hc hd HA HW HR)
  all_goals (go_enter Try.func23, Try.ntmps23)
  all_goals (go_wp2_with (first | (go_at_call 25; first | (refine (HA1 _).mono ?_; rintro e y ⟨rfl, rfl⟩) | (refine (HB1 _).mono ?_; rintro e y ⟨rfl, rfl⟩) | (refine (HC1 _).mono ?_; rintro e y ⟨rfl, rfl⟩)) | (go_at_call 18; refine (HD1 _).mono ?_; rintro e y ⟨rfl, rfl⟩) | fail))
  all_goals go_ret
  all_goals exact ⟨rfl, below_one _ _⟩
theorem amount_any (a : Ap) (w : World) : Calls Try.prog 57 #[apv a] w fun e w' => e = .returned (.int .i64 a.2.1) ∧ Below w.heap.size w w' := by
  obtain ⟨n, u, t⟩ := a
  unfold apv
  go_enter Try.func57, Try.ntmps57
  go_wp2_with fail
  go_ret
  exact ⟨rfl, below_one _ _⟩
def tlv (c s : Int) : Value := .agg #[.int .i64 c, .int .i64 s]
theorem howMany_any (c s : Int) (w : World) : Calls Try.prog 48 #[tlv c s] w fun e w' => e = .returned (.int .i64 c) ∧ Below w.heap.size w w' := by
  unfold tlv
  go_enter Try.func48, Try.ntmps48
  go_wp2_with fail
  go_ret
  exact ⟨rfl, below_one _ _⟩
theorem together_any (c s : Int) (w : World) : Calls Try.prog 49 #[tlv c s] w fun e w' => e = .returned (.int .i64 s) ∧ Below w.heap.size w w' := by
  unfold tlv
  go_enter Try.func49, Try.ntmps49
  go_wp2_with fail
  go_ret
  exact ⟨rfl, below_one _ _⟩
theorem isNaN_any (a : Int) (w : World) : Calls Try.prog 62 #[.int .i64 a] w fun e w' => e = .returned (.bool false) ∧ w' = w := by
  go_enter Try.func62, Try.ntmps62
  go_wp2_with fail
  go_ret
  exact ⟨by simp, rfl⟩
def cm (a b : Int) : Int := if a < b then -1 else if b < a then 1 else 0
theorem compare_any (a b : Int) (w : World) : Calls Try.prog 61 #[.int .i64 a, .int .i64 b] w fun e w' => e = .returned (.int .i64 (cm a b)) ∧ w' = w := by
  have HN : Hid (∀ a y, Calls Try.prog 62 #[.int .i64 a] y fun e w' => e = .returned (.bool false) ∧ w' = y) := fun a y => isNaN_any a y
  unfold cm
  by_cases h1 : a < b
  · rw [if_pos h1]
    go_enter Try.func61, Try.ntmps61
    go_wp2_with (go_at_call 62; refine (HN.out _ _).mono ?_; rintro e y ⟨rfl, rfl⟩)
    go_ret
    exact ⟨rfl, rfl⟩
  · rw [if_neg h1]
    by_cases h2 : b < a
    · rw [if_pos h2]
      go_enter Try.func61, Try.ntmps61
      go_wp2_with (go_at_call 62; refine (HN.out _ _).mono ?_; rintro e y ⟨rfl, rfl⟩)
      go_ret
      exact ⟨rfl, rfl⟩
    · rw [if_neg h2]
      go_enter Try.func61, Try.ntmps61
      go_wp2_with (go_at_call 62; refine (HN.out _ _).mono ?_; rintro e y ⟨rfl, rfl⟩)
      go_ret
      exact ⟨rfl, rfl⟩
theorem from1_any (a : Ap) (t : Int) (w : World) : Calls Try.prog 60 #[apv a, .int .i64 t] w fun e w' => e = .returned (.int .i64 (cm a.2.2 t)) ∧ Below w.heap.size w w' := by
  obtain ⟨n, u, k⟩ := a
  have HC : Hid (∀ y, Calls Try.prog 61 #[.int .i64 k, .int .i64 t] y fun e w' => e = .returned (.int .i64 (cm k t)) ∧ w' = y) := fun y => compare_any k t y
  unfold apv
  dsimp only
  generalize cm k t = r at *
  go_enter Try.func60, Try.ntmps60
  go_wp2_with (go_at_call 61; refine (HC.out _).mono ?_; rintro e y ⟨rfl, rfl⟩)
  go_ret
  exact ⟨rfl, below_one _ _⟩
theorem eg60 (args : Array Value) (w : World) : (callFunc 60 args).run Try.prog w = .ok (.enter 60 args) w := by kernel_rfl
end Go.Proofs.Ytmaikkhemhonhaa.Da
