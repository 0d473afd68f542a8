/- PINs: all that one PIN goes through, at once. -/
import Derived.Test.YtciblmdpngnakabBp
import Derived.Test.YtciblmdpngnakabLa
import Derived.Test.YtciblmdpngnakabFi
import Derived.Test.YtciblmdpngnakabPy
namespace Go.Proofs.Ytciblmdpngnakab.Fx
set_option linter.unusedVariables false
set_option linter.unusedSimpArgs false
open Go.RowKit Lib0 Six Pp Cb Wa Bp La
open Pq (Post mk_list block_any open_any)
def R2 (s : ByteArray) (E : Int) (w : World) : Ending → World → Prop := fun e w' => e = .returned (.tuple #[.string s, .int .i64 E]) ∧ Below w.heap.size w w'
theorem picked (c : Int) (n : Nat) (hn : 0 < n) : ∃ m : Nat, m < n ∧ Pick.pickOf c n = (m : Int) := by
  have l := Pick.pick_lo c n (by omega)
  have g := Pick.pick_hi c n (by omega)
  exact ⟨(Pick.pickOf c n).toNat, by omega, by omega⟩
theorem pin_of (p : ByteArray) (n : Nat) (h : p.size = n) (h4 : 4 ≤ n) (h12 : n ≤ 12) (ha : adg p = true) : pinB p = true := (pinB_iff p).2 ⟨by omega, by omega, ha⟩
theorem pan_of (p : ByteArray) (n : Nat) (h : p.size = n) (h4 : 13 ≤ n) (h12 : n ≤ 19) (ha : adg p = true) : panB p = true := (panB_iff p).2 ⟨by omega, by omega, ha⟩
/-- one format -/
theorem one (f : Int) (p q s : ByteArray) (n : Nat) (hk : kn f = true) (hn : p.size = n) (h12 : n ≤ 12) (hp : pinB p = true) (hq : panB q = true) :
    ∃ B : ByteArray, (blockR f p q (filS f s n)).1 = B ∧ B.size = 8 ∧ (∀ u, Calls Try.prog 12 #[.int .i64 f, .string p, .string q, .string (filS f s n)] u (R2 B 0 u)) ∧ (∀ u, Calls Try.prog 10 #[.int .i64 f, .string B, .string q] u (R2 p 0 u)) ∧
      (((B.data.toList.getD 0 0).toNat / 16 : Nat) : Int) = f := by
  have q1 : qB f q = true := by simp [qB, hq]
  have hf : fillB f (filS f s n) (14 - p.size) = true := by rw [hn]; exact fil_ok f s n (by omega)
  have e := block_eq f p q (filS f s n) hk hp q1 hf
  have o := open_block f p q (filS f s n) hk hp q1 hf
  have hpp := (pinB_iff p).1 hp
  have hqq := (panB_iff q).1 hq
  have fs := fil_size f s n
  have s8 : (blockR f p q (filS f s n)).1.size = 8 := (block_size f p q _).2 (by rw [e])
  refine ⟨_, rfl, s8, fun u => ?_, fun u => ?_, ?_⟩
  · have h := block_any f p q (filS f s n) (by unfold maxLen; omega) (by unfold maxLen; omega) (by unfold maxLen; omega) u
    rw [e] at h ⊢
    exact h
  · have h := open_any f (blockR f p q (filS f s n)).1 q (by unfold maxLen; omega) (by unfold maxLen; omega) u
    rw [e] at h ⊢
    rw [o.1] at h
    exact h
  · rw [e]; exact o.2
theorem enc8 (k B : ByteArray) (h16 : k.size = 16) (s8 : B.size = 8) (g : Nat) (u : World) (hk : Bk.Key u g 2 k.data.toList) :
    Calls Try.prog 27 #[.pointer (some ⟨g, 0, none⟩), .string B] u (R2 (eK k B) 0 u) :=
  Et.Enc_good B g 2 1 k.data.toList u (by show B.size = 8 * 1; rw [s8]) (by rw [s8]; decide) (kind16 k h16) hk
theorem new16 (k : ByteArray) (h16 : k.size = 16) (u : World) :
    Calls Try.prog 37 #[.string k] u fun e w' => ∃ g, e = .returned (.tuple #[.pointer (some ⟨g, 0, none⟩), .int .i64 0]) ∧ Bk.Key w' g 2 k.data.toList ∧ Below u.heap.size u w' :=
  (Nw.new_good k 2 (by show Wd.kindN k.size = 2; rw [h16]; rfl) (by decide) (by decide) u).mono fun e w' h => by
    obtain ⟨g, h1, h2, h3, h4⟩ := h
    exact ⟨g, h1, Bl.keyOf h3, h4⟩
end Go.Proofs.Ytciblmdpngnakab.Fx
