/- The heap's methods, called through the interface. -/
import Derived.Test.YtmaikkhemhonhaaDi
namespace Go.Proofs.Ytmaikkhemhonhaa.Dx
set_option linter.unusedVariables false
set_option linter.unusedSimpArgs false
open Go.RowKit Go.Maps Lib0 Kb Xp Da Db Dc Dd De Dh Di
abbrev tPA : TypeId := 87
theorem nilChk (ts : Array TypeId) (ty : TypeId) (a : Addr) (x y : String) (w : World) : (Builtin.ssaWrapNilChk_ ts ty #[.pointer (some a), strVal x, strVal y]).run Try.prog w = .ok (.pointer (some a)) w := by rfl
theorem m_less (w : World) (b : Nat) (o : Option Addr) (n c : Nat) (h : w.cell? ⟨b, 4, none⟩ = some (.slice o n c)) : (method 237 tPA (.pointer (some ⟨b, 4, none⟩)) "Less").run Try.prog w = .ok (81, .slice o n c) w := by
  have e : ∃ i, Try.prog.info? tPA = some i ∧ (i.methods.find? (·.name == "Less")).map (fun m => (m.path, m.func)) = some (#[], some (81, false)) := by
    have h : (Try.prog.info? tPA).map (fun i => (i.methods.find? (·.name == "Less")).map (fun m => (m.path, m.func))) = some (some (#[], some (81, false))) := by kernel_rfl
    cases e : Try.prog.info? tPA with
    | none => rw [e] at h; cases h
    | some i => rw [e] at h; simp only [Option.map_some, Option.some.injEq] at h; exact ⟨i, rfl, h⟩
  obtain ⟨i, hi, hm⟩ := e
  cases hf : i.methods.find? (·.name == "Less") with
  | none => rw [hf] at hm; cases hm
  | some m =>
    rw [hf] at hm
    simp only [Option.map_some, Option.some.injEq, Prod.mk.injEq] at hm
    unfold method
    simp [go_sem, typeInfo, hi, hf, hm.1, hm.2, follow, receiverAt, Place.get, nilChk, h]
theorem m_swap (w : World) (b : Nat) (o : Option Addr) (n c : Nat) (h : w.cell? ⟨b, 4, none⟩ = some (.slice o n c)) : (method 237 tPA (.pointer (some ⟨b, 4, none⟩)) "Swap").run Try.prog w = .ok (82, .slice o n c) w := by
  have e : ∃ i, Try.prog.info? tPA = some i ∧ (i.methods.find? (·.name == "Swap")).map (fun m => (m.path, m.func)) = some (#[], some (82, false)) := by
    have h : (Try.prog.info? tPA).map (fun i => (i.methods.find? (·.name == "Swap")).map (fun m => (m.path, m.func))) = some (some (#[], some (82, false))) := by kernel_rfl
    cases e : Try.prog.info? tPA with
    | none => rw [e] at h; cases h
    | some i => rw [e] at h; simp only [Option.map_some, Option.some.injEq] at h; exact ⟨i, rfl, h⟩
  obtain ⟨i, hi, hm⟩ := e
  cases hf : i.methods.find? (·.name == "Swap") with
  | none => rw [hf] at hm; cases hm
  | some m =>
    rw [hf] at hm
    simp only [Option.map_some, Option.some.injEq, Prod.mk.injEq] at hm
    unfold method
    simp [go_sem, typeInfo, hi, hf, hm.1, hm.2, follow, receiverAt, Place.get, nilChk, h]
theorem m_len (w : World) (b : Nat) (o : Option Addr) (n c : Nat) (h : w.cell? ⟨b, 4, none⟩ = some (.slice o n c)) : (method 237 tPA (.pointer (some ⟨b, 4, none⟩)) "Len").run Try.prog w = .ok (80, .slice o n c) w := by
  have e : ∃ i, Try.prog.info? tPA = some i ∧ (i.methods.find? (·.name == "Len")).map (fun m => (m.path, m.func)) = some (#[], some (80, false)) := by
    have h : (Try.prog.info? tPA).map (fun i => (i.methods.find? (·.name == "Len")).map (fun m => (m.path, m.func))) = some (some (#[], some (80, false))) := by kernel_rfl
    cases e : Try.prog.info? tPA with
    | none => rw [e] at h; cases h
    | some i => rw [e] at h; simp only [Option.map_some, Option.some.injEq] at h; exact ⟨i, rfl, h⟩
  obtain ⟨i, hi, hm⟩ := e
  cases hf : i.methods.find? (·.name == "Len") with
  | none => rw [hf] at hm; cases hm
  | some m =>
    rw [hf] at hm
    simp only [Option.map_some, Option.some.injEq, Prod.mk.injEq] at hm
    unfold method
    simp [go_sem, typeInfo, hi, hf, hm.1, hm.2, follow, receiverAt, Place.get, nilChk, h]
theorem m_push (w : World) (b : Nat) : (method 237 tPA (.pointer (some ⟨b, 4, none⟩)) "Push").run Try.prog w = .ok (84, .pointer (some ⟨b, 4, none⟩)) w := by
  have e : ∃ i, Try.prog.info? tPA = some i ∧ (i.methods.find? (·.name == "Push")).map (fun m => (m.path, m.func)) = some (#[], some (84, true)) := by
    have h : (Try.prog.info? tPA).map (fun i => (i.methods.find? (·.name == "Push")).map (fun m => (m.path, m.func))) = some (some (#[], some (84, true))) := by kernel_rfl
    cases e : Try.prog.info? tPA with
    | none => rw [e] at h; cases h
    | some i => rw [e] at h; simp only [Option.map_some, Option.some.injEq] at h; exact ⟨i, rfl, h⟩
  obtain ⟨i, hi, hm⟩ := e
  cases hf : i.methods.find? (·.name == "Push") with
  | none => rw [hf] at hm; cases hm
  | some m =>
    rw [hf] at hm
    simp only [Option.map_some, Option.some.injEq, Prod.mk.injEq] at hm
    unfold method
    simp [go_sem, typeInfo, hi, hf, hm.1, hm.2, follow, receiverAt, Place.get, nilChk]
theorem m_pop (w : World) (b : Nat) : (method 237 tPA (.pointer (some ⟨b, 4, none⟩)) "Pop").run Try.prog w = .ok (83, .pointer (some ⟨b, 4, none⟩)) w := by
  have e : ∃ i, Try.prog.info? tPA = some i ∧ (i.methods.find? (·.name == "Pop")).map (fun m => (m.path, m.func)) = some (#[], some (83, true)) := by
    have h : (Try.prog.info? tPA).map (fun i => (i.methods.find? (·.name == "Pop")).map (fun m => (m.path, m.func))) = some (some (#[], some (83, true))) := by kernel_rfl
    cases e : Try.prog.info? tPA with
    | none => rw [e] at h; cases h
    | some i => rw [e] at h; simp only [Option.map_some, Option.some.injEq] at h; exact ⟨i, rfl, h⟩
  obtain ⟨i, hi, hm⟩ := e
  cases hf : i.methods.find? (·.name == "Pop") with
  | none => rw [hf] at hm; cases hm
  | some m =>
    rw [hf] at hm
    simp only [Option.map_some, Option.some.injEq, Prod.mk.injEq] at hm
    unfold method
    simp [go_sem, typeInfo, hi, hf, hm.1, hm.2, follow, receiverAt, Place.get, nilChk]
end Go.Proofs.Ytmaikkhemhonhaa.Dx
