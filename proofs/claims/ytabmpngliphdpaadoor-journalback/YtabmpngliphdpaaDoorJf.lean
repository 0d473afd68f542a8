/- errors.Is: of errEnd, of a *Fault, of nil: after the guides' worked example of errors.Is. -/
import Derived.Test.YtabmpngliphdpaaDoorJe
import Derived.Lib.IfaceEq
namespace Go.Proofs.YtabmpngliphdpaaDoor.Jf
set_option linter.unusedVariables false
set_option linter.unusedSimpArgs false
open Go.RowKit Go.Extern.Stop Go.Stop Go.Extern
abbrev tEs : TypeId := 173
abbrev tFa : TypeId := 86
abbrev tEr : TypeId := 43
/-- what reflectlite's Comparable runs -/
def compF : Array Value → Sem Value := Extern.ReflectliteType.method fun t => do Rtype.noPackHeld "Comparable" t; pure (.bool (← typeInfo t).comparable)
theorem isTypeOf (v : Value) (w : World) : (Extern.ReflectliteType.typeOf #[.iface 173 v]).run Tryd.prog w = .ok (.iface 144 (.agg #[.pointer (some ⟨3, 173, none⟩)])) w := by kernel_rfl
theorem isComparable (w : World) : (compF #[.agg #[.pointer (some ⟨3, 173, none⟩)]]).run Tryd.prog w = .ok (.bool true) w := by kernel_rfl
theorem isTypeOfN (v : Value) (w : World) : (Extern.ReflectliteType.typeOf #[.iface 43 v]).run Tryd.prog w = .ok (.iface 144 (.agg #[.pointer (some ⟨3, 43, none⟩)])) w := by kernel_rfl
theorem isComparableN (w : World) : (compF #[.agg #[.pointer (some ⟨3, 43, none⟩)]]).run Tryd.prog w = .ok (.bool true) w := by kernel_rfl
theorem isMethodComparable (v : Value) (w : World) : (Go.method 303 144 v "Comparable").run Tryd.prog w = .ok (109, v) w := by kernel_rfl
theorem isComp : (Tryd.prog.info? 173).map (·.comparable) = some true := by kernel_rfl
theorem isSize : (Tryd.prog.info? 191).map (·.size) = some 1 := by kernel_rfl
theorem noIsF (v : Value) (xT : TypeId) (w : World) : (Instr.typeAssert (.iface 86 v) xT 156 true).run Tryd.prog w = .ok (.tuple #[.nilIface, .bool false]) w := run_typeAssert_lacksB Tryd.underlying156 (by kernel_rfl) (by kernel_rfl) v xT w
theorem noIsN (v : Value) (xT : TypeId) (w : World) : (Instr.typeAssert (.iface 43 v) xT 156 true).run Tryd.prog w = .ok (.tuple #[.nilIface, .bool false]) w := run_typeAssert_lacksB Tryd.underlying156 (by kernel_rfl) (by kernel_rfl) v xT w
theorem noUnwrapN (v : Value) (xT : TypeId) (w : World) : (Instr.typeAssert (.iface 43 v) xT 151 true).run Tryd.prog w = .ok (.tuple #[.nilIface, .bool false]) w := run_typeAssert_lacksB Tryd.underlying151 (by kernel_rfl) (by kernel_rfl) v xT w
theorem noUnwrapsN (v : Value) (xT : TypeId) (w : World) : (Instr.typeAssert (.iface 43 v) xT 153 true).run Tryd.prog w = .ok (.tuple #[.nilIface, .bool false]) w := run_typeAssert_lacksB Tryd.underlying153 (by kernel_rfl) (by kernel_rfl) v xT w
theorem hasUnwrapF (v : Value) (xT : TypeId) (w : World) : (Instr.typeAssert (.iface 86 v) xT 151 true).run Tryd.prog w = .ok (.tuple #[.iface 86 v, .bool true]) w := run_typeAssert_hasB Tryd.underlying151 (by kernel_rfl) v xT w
theorem methodUnwrap (v : Value) (w : World) : (Go.method 303 86 v "Unwrap").run Tryd.prog w = .ok (103, v) w := by kernel_rfl
theorem is_same (a : Addr) (w : World) :
    Calls Tryd.prog 34 #[.iface 173 (.pointer (some a)), .iface 173 (.pointer (some a))] w fun e w' => e = .returned (.bool true) ∧ w' = w := by
  obtain ⟨i, hi, hcmp⟩ := Option.map_eq_some_iff.1 isComp
  obtain ⟨j, hj, hjs⟩ := Option.map_eq_some_iff.1 isSize
  have h8 := @run_callFunc_extern Tryd.prog 53 _ Extern.ReflectliteType.typeOf Tryd.func53 (by kernel_rfl) (by kernel_rfl) (by kernel_rfl) (by kernel_rfl)
  have h32 := @run_callFunc_extern Tryd.prog 109 _ compF Tryd.func109 (by kernel_rfl) (by kernel_rfl) (by kernel_rfl) (by kernel_rfl)
  have tT := isTypeOf
  have cT := isComparable
  have mR := isMethodComparable
  have heq := run_eql_iface_ptr_same (P := Tryd.prog) w a Tryd.underlying47 Tryd.underlying173 hi hcmp hj
  go_enter Tryd.func34, Tryd.ntmps34
  go_wp2
  refine wp_loop_rounds 1 ?_
  rw [rounds_succ]
  go_wp2
  go_ret
  exact ⟨rfl, rfl⟩
theorem is_nil (b : Addr) (w : World) :
    Calls Tryd.prog 34 #[.nilIface, .iface 173 (.pointer (some b))] w fun e w' => e = .returned (.bool false) ∧ w' = w := by
  have hn := run_eql_iface_nil_left (P := Tryd.prog) w 173 (.pointer (some b)) Tryd.underlying47
  go_enter Tryd.func34, Tryd.ntmps34
  go_wp2
  go_ret
  exact ⟨rfl, rfl⟩
/-- errors.Is(f, f.Code) of a *Fault. -/
theorem is_code (g : Nat) (c : Int) (w : World) (h1 : w.cell? ⟨g, 1, none⟩ = some (.int .i64 c)) :
    Calls Tryd.prog 34 #[.iface 86 (.pointer (some ⟨g, 0, none⟩)), .iface 43 (.int .i64 c)] w fun e w' => e = .returned (.bool true) ∧ w' = w := by
  have h8 := @run_callFunc_extern Tryd.prog 53 _ Extern.ReflectliteType.typeOf Tryd.func53 (by kernel_rfl) (by kernel_rfl) (by kernel_rfl) (by kernel_rfl)
  have h32 := @run_callFunc_extern Tryd.prog 109 _ compF Tryd.func109 (by kernel_rfl) (by kernel_rfl) (by kernel_rfl) (by kernel_rfl)
  have tT := isTypeOfN
  have cT := isComparableN
  have mR := isMethodComparable
  have nF := noIsF
  have uF := hasUnwrapF
  have mU := methodUnwrap
  have heq := Lib.run_eql_iface_int (P := Tryd.prog) (k := .i64) w c c Tryd.underlying47 (by kernel_rfl) Tryd.underlying43
  have hty := run_eql_iface_types (P := Tryd.prog) 86 43 (.pointer (some ⟨g, 0, none⟩)) (.int .i64 c) Tryd.underlying47 (by decide) w
  go_enter Tryd.func34, Tryd.ntmps34
  go_wp2
  refine wp_loop_rounds 2 ?_
  rw [rounds_succ]
  go_wp2
  rw [rounds_succ]
  go_wp2
  go_ret
  exact ⟨rfl, rfl⟩
/-- errors.Is(f, errEnd) of a *Fault. -/
theorem is_end (g : Nat) (c : Int) (b : Addr) (w : World) (h1 : w.cell? ⟨g, 1, none⟩ = some (.int .i64 c)) :
    Calls Tryd.prog 34 #[.iface 86 (.pointer (some ⟨g, 0, none⟩)), .iface 173 (.pointer (some b))] w fun e w' => e = .returned (.bool false) ∧ w' = w := by
  have h8 := @run_callFunc_extern Tryd.prog 53 _ Extern.ReflectliteType.typeOf Tryd.func53 (by kernel_rfl) (by kernel_rfl) (by kernel_rfl) (by kernel_rfl)
  have h32 := @run_callFunc_extern Tryd.prog 109 _ compF Tryd.func109 (by kernel_rfl) (by kernel_rfl) (by kernel_rfl) (by kernel_rfl)
  have tT := isTypeOf
  have cT := isComparable
  have mR := isMethodComparable
  have nF := noIsF
  have uF := hasUnwrapF
  have mU := methodUnwrap
  have nN := noIsN
  have uN := noUnwrapN
  have vN := noUnwrapsN
  have hty := run_eql_iface_types (P := Tryd.prog) 86 173 (.pointer (some ⟨g, 0, none⟩)) (.pointer (some b)) Tryd.underlying47 (by decide) w
  have hty2 := run_eql_iface_types (P := Tryd.prog) 43 173 (.int .i64 c) (.pointer (some b)) Tryd.underlying47 (by decide) w
  go_enter Tryd.func34, Tryd.ntmps34
  go_wp2
  refine wp_loop_rounds 2 ?_
  rw [rounds_succ]
  go_wp2
  rw [rounds_succ]
  go_wp2
  go_ret
  exact ⟨rfl, rfl⟩
end Go.Proofs.YtabmpngliphdpaaDoor.Jf
