/- Going over the currencies. -/
import Derived.Test.YtaacocliclibgaaRi
import Derived.Test.YtaacocliclibgaaRa
namespace Go.Proofs.Ytaacocliclibgaa.Cu
set_option linter.unusedVariables false
set_option linter.unusedSimpArgs false
open Go.RowKit Go.Maps Go.Sort Kb Pp Pc Nm Ri Ra
attribute [local go_sem] Oper.semAt_some
/-- what a body keeps: every block of texts -/
def KS (A B : World) : Prop := ∀ (k : Nat) (c : Array Value) (fr : Nat × Nat), A.heap[k]? = some (Obj.cells c 9 fr) → B.heap[k]? = A.heap[k]?
theorem ks_r (A : World) : KS A A := fun _ _ _ _ => rfl
theorem ks_t {A B C : World} (h : KS A B) (k : KS B C) : KS A C := fun i c fr hi => (k i c fr ((h i c fr hi).trans hi)).trans (h i c fr hi)
theorem ks_below {A B : World} (h : Below A.heap.size A B) : KS A B := fun k c fr hk => h.block k (Array.getElem?_eq_some_iff.1 hk).1
theorem ks_b (W : World) (l : Nat) (o o' : Obj) (h : W.heap[l]? = some o) (hc : o.isCells = false) : KS W (W.putObj l o') :=
  fun k c fr hk => World.putObj_heap_other (fun e => by subst e; rw [h] at hk; cases hk; simp [Obj.isCells] at hc)
theorem ks_set {A : World} {g : Nat} {c : Array Value} {t : TypeId} {fr : Nat × Nat} (h : A.heap[g]? = some (.cells c t fr)) (ht : t ≠ 9) (o : Nat) (v : Value) : KS A (A.setCell ⟨g, o, none⟩ v) :=
  fun k c' fr' hk => setCell_ne (fun e => by subst e; rw [h] at hk; cases hk; exact ht rfl) o v
def ev (x : List UInt8) : Value := .string ⟨x.toArray⟩
theorem names_len : names.length = 27 := rfl
set_option maxRecDepth 100000 in
set_option maxHeartbeats 1600000 in
theorem goes (hsort : SortS) (n : Nat) (w : World) :
    SeqStopsK Fence.wide n Try.prog 17 #[] (fun x : List UInt8 => #[ev x]) KS (fun xs => xs = names) (fun pre => pre <+: names) 27 w := fun l J Jx W hW hJ hJx hY h0 => by
  refine callsIn_of_wp Try.func17 rfl trivial ?_ rfl
  simp only [Try.ntmps17, List.size_toArray, List.length_cons, List.length_nil, Nat.reduceAdd, Nat.reduceSub, Array.replicate_succ, Array.replicate_zero, List.push_toArray, List.append_toArray, List.nil_append, List.cons_append, Array.append_empty]
  gi_wp2
  refine ⟨trivial, fun h => by simp [Fence.wide] at h, (callsIn_wide.2 (allPlaces_any Unit W)).mono ?_⟩
  rintro e y1 ⟨rfl, hown, h1⟩
  gi_wp2
  refine ⟨trivial, fun h => by simp [Fence.wide] at h, (callsIn_wide.2 (rising_any hsort W.heap.size 27 y1 hown)).mono ?_⟩
  rintro e y2 ⟨g, cap, rfl, hrow, h2⟩
  have hb := keepB h1 h2
  have hj : J [] y2 := hJ [] W y2 none h0 (grown_of hb) (fun r e => by cases e)
  obtain ⟨cur, hg, hc⟩ : ∃ cur, y2.heap[g]? = some (.cells cur 9 (0, 0)) ∧ ∀ i, i < 27 → cur[i]? = some (ev (names.getD i [])) := by
    rcases hrow.2 with ⟨e, _⟩ | ⟨g2, c2, cur, e, hbase, hb2, k1, k2, k3, k4⟩
    · cases e
    · injection e with e1 e2 e3
      injection e1 with e1
      injection e1 with e1
      subst e1
      refine ⟨cur, hb2, fun i hi => ?_⟩
      have hi' : i < names.length := hi
      have : (names.map encStr)[i]? = some (ev (names.getD i [])) := by
        rw [List.getElem?_map, List.getD_eq_getElem?_getD, List.getElem?_eq_getElem hi']
        rfl
      rw [← k4] at this
      rw [List.getElem?_take_of_lt (by omega)] at this
      rw [← this]
      exact (Array.getElem?_toList).symm
  have HC : Hid (∀ i, i < 27 → cur[i]? = some (ev (names.getD i []))) := hc
  clear hown h1 h2 hrow hc h0 hb
  gi_wp2
  gi_loopw [7] (fun vi wr => ∃ (i : Nat), i ≤ 27 ∧ vi = .int .i64 (i : Int) ∧ Hid (J (names.take i) wr) ∧ wr.heap[g]? = some (.cells cur 9 (0, 0))) (fun vi _ => 27 - (intOf vi).toNat)
  case atStart => exact ⟨0, Nat.zero_le _, rfl, hj, hg⟩
  case round =>
    obtain ⟨i, hi, rfl, HJ, hgw⟩ := hrel
    rename World => wr
    by_cases hlt : i < 27
    · have hlt' : (i : Int) < 27 := by omega
      have hin : i < names.length := hlt
      have cc : wr.cell? ⟨g, i, none⟩ = some (ev (names.getD i [])) := cell_row hgw (HC.out i hlt)
      have hY1 := hY (names.take i) (names.getD i []) wr HJ.out (by rw [List.length_take, names_len]; omega)
      obtain ⟨fn, tmps, assign, body, hy, hR⟩ := hY1
      have HT : Hid (names.take i ++ [names.getD i []] = names.take (i + 1)) := by
        show _ = _
        rw [List.take_succ_eq_append_getElem hin, List.getD_eq_getElem?_getD, List.getElem?_eq_getElem hin]
        rfl
      have HP : Hid (names.take (i + 1) <+: names) := List.take_prefix _ _
      unfold ev at cc hy
      rw [HT.out] at hR
      clear HT HC
      generalize names.getD i [] = x at *
      gi_wp2
      refine ⟨fun h => by simp [Fence.wide] at h, (round_wide hR).mono ?_⟩
      clear hR
      rintro e W3 (⟨rfl, hJ3, hk3⟩ | ⟨rfl, hJx3⟩)
      · have hg3 := (hk3 g _ _ hgw).trans hgw
        gi_wp2
        exact ⟨⟨i + 1, by omega, by go_num, hJ3, hg3⟩, by simp [intOf]; omega⟩
      · gi_wp2
        refine bodyPost_ret (results_none rfl _ _ _) rfl ?_
        exact ⟨⟨_, rfl⟩, .inr ⟨_, HP.out, hJx3⟩⟩
    · have hge : ¬ (i : Int) < 27 := by omega
      have HE : Hid (J names wr) := by
        have := HJ.out
        rw [List.take_of_length_le (by rw [names_len]; omega)] at this
        exact this
      gi_wp2
      go_end0
      exact ⟨⟨_, rfl⟩, .inl HE.out⟩
set_option maxRecDepth 100000 in
theorem currencies_fn (w : World) : Calls Try.prog 8 #[] w fun e w' => e = .returned (.func (.func 17) #[] #[]) ∧ w' = w := by
  have hmf : ∀ (fn : Fn) (first cap : Array Value) (w : World), (Instr.makeFunc fn first cap).run Try.prog w = .ok (.func fn first cap) w := fun _ _ _ _ => rfl
  go_enter Try.func8, Try.ntmps8
  go_wp2
  go_ret
  exact ⟨rfl, rfl⟩
end Go.Proofs.Ytaacocliclibgaa.Cu
