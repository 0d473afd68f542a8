/- allPlaces and Places. -/
import Derived.Test.YtaacocliclibgaaKb
import Derived.Test.YtaacocliclibgaaPp
import Derived.Maps.OwnSet
import Derived.Maps.OwnOps
import Derived.Carry
namespace Go.Proofs.Ytaacocliclibgaa.Pc
set_option linter.unusedVariables false
open Go.RowKit Go.Maps Go.WideMaps Kb Pp
theorem law : Keyed Try.prog 9 := string_keyed Try.underlying9
theorem zeroE (w : World) : (zeroValue 3).run Try.prog w = .ok (.int .i64 0) w := by kernel_rfl
/-- an entry of a map's literal -/
theorem wpList_insert_own {H : Type} {P : Program} (w : World) {ops : Array Oper} {rest : List Oper} {o : Oper} {a : Act} {Q : Exit → Act → World → Prop}
    (hg : o.guard = none) (m x v : Operand) (t : TypeId) (hop : o.op = Op.insert t m x v)
    (k e : TypeId) (K : Keyed P k) (ht : P.underlying t = some (.map k e)) (R : Value → Option (DataW H × List MemPlace)) (b n : Nat) (D : DataW H)
    (hm : a.eval m = .map (some b)) (hown : w.ownsMap P k R b n D) (hn : n < maxLen) (key val : Value) (kl : Lit) (hx : a.eval x = key) (hv : a.eval v = val) (hkey : keyOf P k key = some kl)
    (d : DataW H) (ps : List MemPlace) (hval : R val = some (d, ps))
    (hK : ∀ w', w'.ownsMap P k R b (n + 1) (D.put kl d) → w.grownBy w' (some b) → wpList P ops Q rest (a.put o.dst undef) w') :
    wpList P ops Q (o :: rest) a w := by
  refine wpList_plain hg fun K' hK' => ?_
  obtain ⟨w', hrun, r1, r2⟩ := hown.update K ht hn hkey hval
  unfold Oper.wp
  simp [execOp, hop, hm, hx, hv, hrun, Result.andThen]
  exact hK' _ _ (hK w' r1 r2)
def D0 (H : Type) : DataW H := .map (ents.map fun p => (.string p.1, .lit (.int .i64 p.2)))
theorem has_D0 {H : Type} (s : List UInt8) : Maps.has (D0 H) (.string s) = (plf s).isSome := by
  simp only [D0, Maps.has, plf, List.any_map, Option.isSome_map]
  rw [Bool.eq_iff_iff]
  simp [Function.comp_def, Lit.sameKey, List.find?_isSome]
theorem at_D0 {H : Type} (s : List UInt8) : (D0 H).atKey (.string s) (.lit (.int .i64 0)) = .lit (.int .i64 (plV s)) := by
  simp only [D0, DataW.atKey, plV, plf, List.find?_map, Function.comp_def, Lit.sameKey]
  cases ents.find? fun p => p.1 == s <;> rfl
def srcL : List (List UInt8 × Int) := [([49, 53, 50], 0), ([51, 53, 50], 0), ([51, 57, 50], 0), ([52, 49, 48], 0), ([48, 51, 54], 2), ([49, 50, 52], 2), ([49, 53, 54], 2), ([50, 48, 56], 2), ([51, 52, 52], 2), ([51, 53, 54], 2), ([52, 56, 52], 2), ([53, 53, 52], 2), ([53, 55, 56], 2), ([55, 48, 50], 2), ([55, 49, 48], 2), ([55, 53, 50], 2), ([55, 53, 54], 2), ([56, 50, 54], 2), ([56, 52, 48], 2), ([57, 52, 57], 2), ([57, 55, 56], 2), ([57, 56, 54], 2), ([48, 52, 56], 3), ([52, 48, 48], 3), ([52, 49, 52], 3), ([53, 49, 50], 3), ([55, 56, 56], 3)]
def D27 (H : Type) : DataW H := srcL.foldl (fun D p => D.put (.string p.1) (.lit (.int .i64 p.2))) (.map [])
theorem D27_eq (H : Type) : D27 H = D0 H := by kernel_rfl
set_option maxRecDepth 100000 in
set_option maxHeartbeats 400000 in
theorem allPlaces_any (H : Type) (w : World) : Calls Try.prog 16 #[] w fun e w' => e = .returned (.map (some w.heap.size)) ∧ w'.ownsMap (H := H) Try.prog 9 (plainElem Try.prog 3) w.heap.size 27 (D0 H) ∧ Below w.heap.size w w' := by
  have hmm := @run_makeMap Try.prog
  have hown : Hid ((w.alloc (.map #[] 0)).ownsMap (H := H) Try.prog 9 (plainElem Try.prog 3) w.heap.size 0 (.map [])) := World.ownsMap_made _ _ _ _
  have hb : Below w.heap.size w (w.alloc (.map #[] 0)) := below_one w _
  go_enter Try.func16, Try.ntmps16
  go_wp2_with (refine wpList_insert_own _ rfl _ _ _ 46 rfl 9 3 law Try.underlying46 _ w.heap.size _ _ rfl hown.out (by decide) _ _ _ rfl rfl (keyOf_string_mk Try.underlying9 (by decide)) _ [] (plainElem_int Try.underlying3 (by decide)) ?_; intro w1 hown1 hg1; replace hb := hb.grown hg1 hb.size (fun j hj => by cases hj; exact Nat.le_refl _); clear hown hg1; have hown : Hid _ := hown1; clear hown1)
  go_ret
  refine ⟨rfl, ?_, hb⟩
  rw [← D27_eq]
  simp only [D27, srcL, List.foldl]
  exact hown.out
theorem look_c {c : Int} {s : List UInt8} {H : Type} (h : (D0 H).atKey (.string s) (.lit (.int .i64 0)) = .lit (.int .i64 c)) : c = plV s := by
  rw [at_D0] at h; simpa using h.symm
set_option maxRecDepth 100000 in
set_option maxHeartbeats 400000 in
theorem places_any (s : ByteArray) (hs : s.size ≤ maxLen) (w : World) : Calls Try.prog 5 #[.string s] w fun e w' => e = .returned (.tuple #[.int .i64 (plV s.data.toList), .int .i64 (plE s.data.toList)]) ∧ Below w.heap.size w w' := by
  have hD := @has_D0 Unit s.data.toList
  cases hp : plf s.data.toList with
  | none =>
    have HV : Hid (plV s.data.toList = 0 ∧ plE s.data.toList = 70) := by show _ ∧ _; simp [plV, plE, hp]
    rw [hp] at hD
    clear hp
    go_enter Try.func5, Try.ntmps5
    go_wp2_with (first
      | (go_at_call 16; refine (allPlaces_any Unit _).mono ?_; rintro e x ⟨rfl, hown0, hb⟩; have hown : Hid _ := hown0; clear hown0)
      | (at_lookup; refine wpList_lookup_own_ok_int _ rfl _ _ 46 rfl 9 3 .i64 law Try.underlying46 Try.underlying3 (zeroE _) w.heap.size 27 _ rfl hown.out _ _ rfl (keyOf_string_mk Try.underlying9 hs) ?_; intro c hat hwc; have hat2 : Hid _ := hat; clear hat; rw [hD]))
    go_ret2
    exact ⟨by rw [HV.out.1, HV.out.2]; rfl, hb⟩
  | some p =>
    have HV : Hid (plE s.data.toList = 0) := by show _ = _; simp [plE, hp]
    rw [hp] at hD
    clear hp
    go_enter Try.func5, Try.ntmps5
    go_wp2_with (first
      | (go_at_call 16; refine (allPlaces_any Unit _).mono ?_; rintro e x ⟨rfl, hown0, hb⟩; have hown : Hid _ := hown0; clear hown0)
      | (at_lookup; refine wpList_lookup_own_ok_int _ rfl _ _ 46 rfl 9 3 .i64 law Try.underlying46 Try.underlying3 (zeroE _) w.heap.size 27 _ rfl hown.out _ _ rfl (keyOf_string_mk Try.underlying9 hs) ?_; intro c hat hwc; have hat2 : Hid _ := hat; clear hat; rw [hD]))
    go_ret2
    exact ⟨by rw [HV.out, ← look_c hat2.out]; rfl, hb⟩
end Go.Proofs.Ytaacocliclibgaa.Pc
