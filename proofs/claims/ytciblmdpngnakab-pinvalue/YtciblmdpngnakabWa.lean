/- PINs under keys: plain, and the program's. -/
import Derived.Test.YtciblmdpngnakabPq
import Derived.Test.YtciblmdpngnakabPy
import Derived.Test.YtciblmdpngnakabBl
namespace Go.Proofs.Ytciblmdpngnakab.Wa
set_option linter.unusedVariables false
set_option linter.unusedSimpArgs false
open Go.RowKit Lib0 Six Pp Cb
open Pq (Post block_any open_any)
open Bk (Key key_kept)
open Wd (kindN)
open Et (mapB Enc_good)
open Pla (enc dec enc_len dec_len)
def eK (k s : ByteArray) : ByteArray := ⟨(mapB (enc k.data.toList) s.data.toList).toArray⟩
def dK (k s : ByteArray) : ByteArray := ⟨(mapB (dec k.data.toList) s.data.toList).toArray⟩
theorem eK_size (k s : ByteArray) (h : s.size = 8) : (eK k s).size = 8 := by
  rw [← sz]
  show (mapB _ _).length = 8
  rw [Pm.mapB_len _ _ 1 (by rw [sz, h])]
theorem dK_size (k s : ByteArray) (h : s.size = 8) : (dK k s).size = 8 := by
  rw [← sz]
  show (mapB _ _).length = 8
  rw [Pm.mapB_len _ _ 1 (by rw [sz, h])]
def sealR (k : ByteArray) (f : Int) (p q fill : ByteArray) : ByteArray × Int :=
  if k.size ≠ 16 then (none8, 30) else if (blockR f p q fill).2 ≠ 0 then (none8, (blockR f p q fill).2) else (eK k (blockR f p q fill).1, 0)
def unsealR (k : ByteArray) (f : Int) (b q : ByteArray) : ByteArray × Int :=
  if k.size ≠ 16 then (none8, 30) else if b.size ≠ 8 then (none8, 61) else openR f (dK k b) q
def moveR (k l : ByteArray) (f g : Int) (b q fill : ByteArray) : ByteArray × Int :=
  if k.size ≠ 16 ∨ l.size ≠ 16 then (none8, 30) else if (unsealR k f b q).2 ≠ 0 then (none8, (unsealR k f b q).2) else sealR l g (unsealR k f b q).1 q fill
theorem block_size (f : Int) (p q fill : ByteArray) : (blockR f p q fill).1.size ≤ 8 ∧ ((blockR f p q fill).2 = 0 → (blockR f p q fill).1.size = 8) := by
  unfold blockR
  split
  · exact ⟨by show (0 : Nat) ≤ 8; omega, fun h => by simp at h⟩
  · split
    · exact ⟨by show (0 : Nat) ≤ 8; omega, fun h => by simp at h⟩
    · split
      · exact ⟨by show (0 : Nat) ≤ 8; omega, fun h => by simp at h⟩
      · split
        · exact ⟨by show (0 : Nat) ≤ 8; omega, fun h => by simp at h⟩
        · rename_i h1 h2 h3 h4
          have e : (ByteArray.mk (pk (mix f (lay f p fill) q)).toArray).size = 8 := by
            rw [← sz]
            show (pk _).length = 8
            rw [pk_len, mix_len f _ q (by simpa using h3) (lay_len f p fill (by simpa using h2) (by simpa using h4))]
          exact ⟨by show ByteArray.size _ ≤ 8; rw [e]; exact Nat.le_refl _, fun _ => e⟩
theorem read_size (f : Int) (L : List Nat) : (readR f L).1.size ≤ 12 := by
  unfold readR
  split
  · show (0 : Nat) ≤ 12; omega
  · split
    · rename_i h _
      show ByteArray.size _ ≤ 12
      rw [← sz]
      show (List.map hx _).length ≤ 12
      rw [List.length_map, List.length_take]
      omega
    · show (0 : Nat) ≤ 12; omega
theorem open_size (f : Int) (b q : ByteArray) : (openR f b q).1.size ≤ 12 := by
  unfold openR
  split
  · show (0 : Nat) ≤ 12; omega
  · split
    · show (0 : Nat) ≤ 12; omega
    · exact read_size _ _
theorem unseal_size (k : ByteArray) (f : Int) (b q : ByteArray) : (unsealR k f b q).1.size ≤ 12 := by
  unfold unsealR
  split
  · show (0 : Nat) ≤ 12; omega
  · split
    · show (0 : Nat) ≤ 12; omega
    · exact open_size _ _ _
theorem seal_size (k : ByteArray) (f : Int) (p q fill : ByteArray) : (sealR k f p q fill).1.size ≤ 8 := by
  unfold sealR
  split
  · show (0 : Nat) ≤ 8; omega
  · split
    · show (0 : Nat) ≤ 8; omega
    · rename_i h
      rw [eK_size _ _ ((block_size f p q fill).2 (by simpa using h))]
      exact Nat.le_refl _
theorem seal_bd (k : ByteArray) (f : Int) (p q fill : ByteArray) : 0 ≤ (sealR k f p q fill).2 ∧ (sealR k f p q fill).2 ≤ 100 := by
  have := Py.block_bd f p q fill
  unfold sealR
  split
  · constructor <;> simp
  · split
    · exact this
    · constructor <;> simp
theorem unseal_bd (k : ByteArray) (f : Int) (b q : ByteArray) : 0 ≤ (unsealR k f b q).2 ∧ (unsealR k f b q).2 ≤ 100 := by
  unfold unsealR
  split
  · constructor <;> simp
  · split
    · constructor <;> simp
    · exact Py.open_bd _ _ _
theorem move_bd (k l : ByteArray) (f g : Int) (b q fill : ByteArray) : 0 ≤ (moveR k l f g b q fill).2 ∧ (moveR k l f g b q fill).2 ≤ 100 := by
  have := unseal_bd k f b q
  unfold moveR
  split
  · constructor <;> simp
  · split
    · exact this
    · exact seal_bd _ _ _ _ _
theorem ready_bad (k : ByteArray) (h : ((k.size : Int) != 16) = true) (w : World) :
    Calls Try.prog 25 #[.string k] w fun e w' => e = .returned (.tuple #[.pointer none, .int .i64 30]) ∧ w' = w := by
  go_enter Try.func25, Try.ntmps25
  go_wp2
  exact bodyPost_ret (v := .tuple #[.pointer none, .int .i64 30]) (by simp [results, Try.results25, go_sem]) rfl ⟨rfl, rfl⟩
theorem ready_good (k : ByteArray) (h : Hid (k.size = 16)) (w : World) :
    Calls Try.prog 25 #[.string k] w fun e w' => ∃ g, e = .returned (.tuple #[.pointer (some ⟨g, 0, none⟩), .int .i64 0]) ∧ Key w' g 2 k.data.toList ∧ Below w.heap.size w w' := by
  have h' : ((k.size : Int) != 16) = false := by rw [h.out]; rfl
  have NG := fun u => Nw.new_good k 2 (by show kindN k.size = 2; rw [h.out]; rfl) (by decide) (by decide) u
  go_enter Try.func25, Try.ntmps25
  go_wp2_with fail
  refine (NG _).mono ?_
  rintro e x ⟨g, rfl, hg, hx, h2⟩
  have k2 := Bl.keyOf hx
  go_wp2
  exact bodyPost_ret (v := .tuple #[.pointer (some ⟨g, 0, none⟩), .int .i64 0]) (by simp [results, Try.results25, go_sem]) rfl ⟨g, rfl, k2, h2⟩
theorem kind16 (k : ByteArray) (h : k.size = 16) : kindN k.data.toList.length = 2 ∧ 1 ≤ 2 := ⟨by rw [sz, h]; rfl, by decide⟩
end Go.Proofs.Ytciblmdpngnakab.Wa
