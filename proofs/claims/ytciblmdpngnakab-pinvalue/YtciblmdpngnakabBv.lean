/- PINs, plain: on what values hang. -/
import Derived.Test.YtciblmdpngnakabBr
namespace Go.Proofs.Ytciblmdpngnakab.Bv
set_option linter.unusedVariables false
set_option linter.unusedSimpArgs false
open Go.RowKit Lib0 Six Pp Cb Wa Bp La Va Vb Br
open Pq (mk_list)
open Pg (ba_ext ext_list)
theorem app_list (a b : ByteArray) : (a ++ b).data.toList = a.data.toList ++ b.data.toList := by rw [ByteArray.data_append, Array.toList_append]
theorem adg_app (a b : ByteArray) : adg (a ++ b) = (adg a && adg b) := by unfold adg; rw [app_list, List.all_append]
theorem adg_ext (a : ByteArray) (i j : Nat) (hj : j ≤ a.size) (h : adg a = true) : adg (a.extract i j) = true := by
  unfold adg at *
  rw [ext_list _ _ _ hj]
  exact all_sub dg _ _ _ h
theorem size_one (V : Nat) : (⟨#[UInt8.ofNat V]⟩ : ByteArray).size = 1 := rfl
theorem dg_one (V : Nat) (h1 : 48 ≤ V) (h2 : V ≤ 57) : adg ⟨#[UInt8.ofNat V]⟩ = true := by
  unfold adg
  show [UInt8.ofNat V].all dg = true
  have : dg (UInt8.ofNat V) = true := by rw [dg_iff, UInt8.toNat_ofNat', Nat.mod_eq_of_lt (by omega)]; omega
  simp [this]
theorem idx_one (V : Nat) (h1 : 49 ≤ V) (h2 : V ≤ 54) : idxB ⟨#[UInt8.ofNat V]⟩ = true := by
  rw [idxB_iff]
  refine ⟨rfl, ?_⟩
  show 49 ≤ (UInt8.ofNat V).toNat ∧ (UInt8.ofNat V).toNat ≤ 54
  rw [UInt8.toNat_ofNat', Nat.mod_eq_of_lt (by omega)]
  exact ⟨h1, h2⟩
theorem vl_tail (q i p t : ByteArray) (h : p.size = 4) : vl q i (p ++ t) = vl q i p := by
  unfold vl
  rw [app_list, List.take_append_of_le_length (by rw [sz]; omega)]
theorem vl_last (q i p L : ByteArray) (h : panB q = true) (hL : L.size = 1) : vl (q.extract 0 (q.size - 1) ++ L) i p = vl q i p := by
  have hq := (panB_iff q).1 h
  have s1 : (q.extract 0 (q.size - 1) ++ L).size = q.size := by rw [ByteArray.size_append, ByteArray.size_extract, hL]; omega
  unfold vl
  rw [s1, app_list, ext_list _ _ _ (by omega), List.drop_zero, Nat.sub_zero]
  congr 2
  rw [List.drop_append_of_le_length (by rw [List.length_take, sz]; omega), List.take_append_of_le_length (by rw [List.length_drop, List.length_take, sz]; omega), List.drop_take, List.take_take]
  congr 1
  omega
theorem last_pan (q L : ByteArray) (h : panB q = true) (hL : L.size = 1) (ha : adg L = true) : panB (q.extract 0 (q.size - 1) ++ L) = true := by
  have hq := (panB_iff q).1 h
  rw [panB_iff, adg_app, adg_ext q 0 (q.size - 1) (by omega) hq.2.2, ha, ByteArray.size_append, ByteArray.size_extract, hL]
  exact ⟨by omega, by omega, rfl⟩
theorem vl_seven (q i p : ByteArray) (h : panB q = true) : vl (⟨#[55]⟩ ++ q.extract (q.size - 12) q.size) i p = vl q i p := by
  have hq := (panB_iff q).1 h
  have s1 : ((⟨#[55]⟩ : ByteArray) ++ q.extract (q.size - 12) q.size).size = 13 := by rw [ByteArray.size_append, ByteArray.size_extract]; show 1 + _ = 13; omega
  unfold vl
  rw [s1, app_list, ext_list _ _ _ (Nat.le_refl _)]
  congr 2
  show (((q.data.toList.drop (q.size - 12)).take (q.size - (q.size - 12)))).take 11 = _
  rw [List.take_take]
  congr 1
  omega
theorem seven_pan (q : ByteArray) (h : panB q = true) : panB (⟨#[55]⟩ ++ q.extract (q.size - 12) q.size) = true := by
  have hq := (panB_iff q).1 h
  have a7 : adg ⟨#[55]⟩ = true := by decide +kernel
  rw [panB_iff, adg_app, adg_ext q (q.size - 12) q.size (Nat.le_refl _) hq.2.2, a7, ByteArray.size_append, ByteArray.size_extract]
  refine ⟨?_, ?_, rfl⟩
  · show 13 ≤ 1 + _; omega
  · show 1 + _ ≤ 19; omega
theorem tail_pin (p t : ByteArray) (n : Nat) (hp : p.size = 4) (ha : adg p = true) (ht : t.size = n) (hn : n ≤ 8) (hb : adg t = true) : pinB (p ++ t) = true := by
  rw [pinB_iff, adg_app, ha, hb, ByteArray.size_append]
  exact ⟨by omega, by omega, rfl⟩
theorem conv_at (V : Nat) (h : V < 256) (w : World) (g : Nat) (hg : w.heap[g]? = some (Obj.cells #[.int .u8 (V : Int)] 5)) : (convert 33 9 (.slice (some ⟨g, 0, none⟩) 1 1)).run Try.prog w = .ok (.string ⟨#[UInt8.ofNat V]⟩) w :=
  Xo.conv_by (P := Try.prog) (src := 33) (dst := 9) (e := 5) (n := 1) (v := fun _ => V) (fun i _ => h) Try.underlying33 Try.underlying5 Try.underlying9 (w := w) hg
/-- all four are one -/
theorem four (k q i p L : ByteArray) (h16 : k.size = 16) (hq : panB q = true) (hi : idxB i = true) (hp : p.size = 4) (ha : adg p = true) (hL : L.size = 1) (hl : adg L = true) :
    ∃ R : ByteArray, R.size = 4 ∧ adg R = true ∧ (∀ u, Calls Try.prog 14 #[.string k, .string q, .string i, .string p] u (Fx.R2 R 0 u)) ∧ (∀ (t : ByteArray) (n : Nat), t.size = n → n ≤ 8 → adg t = true → ∀ u, Calls Try.prog 14 #[.string k, .string q, .string i, .string (p ++ t)] u (Fx.R2 R 0 u)) ∧
      (∀ u, Calls Try.prog 14 #[.string k, .string (q.extract 0 (q.size - 1) ++ L), .string i, .string p] u (Fx.R2 R 0 u)) ∧ (∀ u, Calls Try.prog 14 #[.string k, .string (⟨#[55]⟩ ++ q.extract (q.size - 12) q.size), .string i, .string p] u (Fx.R2 R 0 u)) := by
  have hpp : pinB p = true := (pinB_iff p).2 ⟨by omega, by omega, ha⟩
  have hql := last_pan q L hq hL hl
  have hqs := seven_pan q hq
  have e0 := val_eq k q i p h16 hq hpp hi
  have e2 := val_same k q _ i p p h16 hq hql hpp hpp hi (vl_last q i p L hq hL)
  have e3 := val_same k q _ i p p h16 hq hqs hpp hpp hi (vl_seven q i p hq)
  have d := val_dg k q i p hq hpp hi
  have q1 := (panB_iff q).1 hq
  have q2 := (panB_iff _).1 hql
  have q3 := (panB_iff _).1 hqs
  have i1 := (idxB_iff i).1 hi
  refine ⟨⟨((da (vh k q i p) ++ db (vh k q i p)).take 4).toArray⟩, d.2, d.1, fun u => ?_, fun t n ht hn hb u => ?_, fun u => ?_, fun u => ?_⟩
  · have h := value_any k q i p (by unfold maxLen; omega) (by unfold maxLen; omega) (by unfold maxLen; omega) (by unfold maxLen; omega) u
    rw [e0] at h
    exact h
  · have hpt := tail_pin p t n hp ha ht hn hb
    have e1 := val_same k q q i p (p ++ t) h16 hq hq hpp hpt hi (vl_tail q i p t hp)
    have p2 := (pinB_iff _).1 hpt
    have h := value_any k q i (p ++ t) (by unfold maxLen; omega) (by unfold maxLen; omega) (by unfold maxLen; omega) (by unfold maxLen; omega) u
    rw [e1, e0] at h
    exact h
  · have h := value_any k (q.extract 0 (q.size - 1) ++ L) i p (by unfold maxLen; omega) (by unfold maxLen; omega) (by unfold maxLen; omega) (by unfold maxLen; omega) u
    rw [e2, e0] at h
    exact h
  · have h := value_any k (⟨#[55]⟩ ++ q.extract (q.size - 12) q.size) i p (by unfold maxLen; omega) (by unfold maxLen; omega) (by unfold maxLen; omega) (by unfold maxLen; omega) u
    rw [e3, e0] at h
    exact h
end Go.Proofs.Ytciblmdpngnakab.Bv
