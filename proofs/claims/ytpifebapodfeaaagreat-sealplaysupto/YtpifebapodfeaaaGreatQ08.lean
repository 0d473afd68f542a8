import Derived.Test.YtpifebapodfeaaaGreatQ07
import Derived.Test.YtpifebapodfeaaaGreatQ01
import Derived.Deep.OwnRows
import Derived.Lib.BufferWrite
import Derived.Lib.SlBuf
import Derived.Shelf.Small.Bits
import Derived.Shelf.LaysM
import Derived.Shelf.Strconv.Clone
import Derived.Test.YtpifebapodfeaaaGreatProg
/- filled, Pad. -/
namespace Go.Proofs.YtpifebapodfeaaaGreat.Pd
set_option linter.unusedVariables false
open Go.RowKit Cb Fp Sm
def R (l : List UInt8) : Array Value := (Lib.byteCells l).toArray
theorem R_size (l : List UInt8) : (R l).size = l.length := by simp [R, Lib.byteCells]
theorem R_made (n : Nat) : madeCells #[.int .u8 0] n = R (List.replicate n 0) := by
  apply Array.ext_getElem?
  intro i
  by_cases hi : i < n
  · simp [madeCells, R, Lib.byteCells, hi, Nat.mod_one]
  · rw [Array.getElem?_eq_none (by simp [madeCells]; omega), Array.getElem?_eq_none (by rw [R_size]; simp; omega)]
theorem R_copy (s : ByteArray) (k : Nat) : ((R (List.replicate (s.size + k) 0)).toList.take 0 ++ Lib.byteCells s.data.toList ++ (R (List.replicate (s.size + k) 0)).toList.drop (0 + s.size)).toArray = R (s.data.toList ++ List.replicate k 0) := by
  simp [R, Lib.byteCells]
theorem R_at (l r : List UInt8) (x : UInt8) : (R (l ++ x :: r))[l.length]? = some (.int .u8 (x.toNat : Int)) := by simp [R, Lib.byteCells]
theorem R_set (l : List UInt8) (k : Nat) : (R (l ++ List.replicate (k + 1) 0)).setIfInBounds l.length (.int .u8 128) = R (l ++ 128 :: List.replicate k 0) := by
  simp [R, Lib.byteCells, List.replicate_succ]
theorem R_str {P : Program} {w : World} {src dst e : TypeId} {g : Nat} {l : List UInt8} {t : TypeId} {fr : Nat × Nat} (hs : P.underlying src = some (.slice e)) (he : P.underlying e = some (.int .u8)) (hd : P.underlying dst = some .string)
    (hg : w.heap[g]? = some (.cells (R l) t fr)) (C : Nat) : (convert src dst (.slice (some ⟨g, 0, none⟩) l.length C)).run P w = .ok (.string ⟨l.toArray⟩) w :=
  run_convert_bytes_back (P := P) w src dst e ⟨g, 0, none⟩ C l hs he hd (fun j hj => by
    rw [show (⟨g, 0, none⟩ : Addr).add j = ⟨g, j, none⟩ by unfold Addr.add; split <;> simp_all, cell_of_row w g j _ t fr hg]
    simp [R, Lib.byteCells, hj])
theorem info : (Tryz.prog.info? 5).map (fun i => (i.zero, i.size, i.bytes)) = some (some (.int .u8 0), 1, 1) := by kernel_rfl
theorem info1 : (Tryz.prog.info? 5).map (·.size) = some 1 := by kernel_rfl
theorem R_frozen {w : World} {g : Nat} {A : Array Value} {t : TypeId} (h : w.heap[g]? = some (.cells A t (0, 0))) (j : Nat) : w.frozen? ⟨g, j, none⟩ = false := by simp [World.frozen?, h]
set_option maxRecDepth 100000 in
set_option maxHeartbeats 1600000 in
theorem filled_two (s : ByteArray) (hs : s.size ≤ 140737488400000) (w : World) :
    Calls Tryz.prog 37 #[.int .i64 2, .string s] w fun e w' => e = .returned (.string (fillB 2 s)) ∧ Below w.heap.size w w' := by
  obtain ⟨i0, hi, hz0, hz1, hz2⟩ := info_parts info
  obtain ⟨k, hk⟩ : ∃ k, 8 * nb (s.size + 1) = s.size + (k + 1) := ⟨8 * nb (s.size + 1) - s.size - 1, by have := nb_ge (s.size + 1); omega⟩
  have hk2 : k ≤ 8 := by have := nb_le (s.size + 1); omega
  have e1 : Hid (((s.size : Int) + 1 + 8 - 1) / 8 * 8 = ((s.size + (k + 1) : Nat) : Int)) := (by unfold nb at hk; omega : ((s.size : Int) + 1 + 8 - 1) / 8 * 8 = ((s.size + (k + 1) : Nat) : Int))
  have eF' : fillB 2 s = (⟨(s.data.toList ++ 128 :: List.replicate k 0).toArray⟩ : ByteArray) := by rw [fillB, fill2, len_size, hk, show s.size + (k + 1) - (s.size + 1) = k by omega]
  have eF : Hid (fillB 2 s = (⟨(s.data.toList ++ 128 :: List.replicate k 0).toArray⟩ : ByteArray)) := eF'
  clear eF'
  clear hk
  go_enter Tryz.func37, Tryz.ntmps37
  go_wp2_with (at_make; refine wpList_make_row _ rfl _ _ 75 rfl 5 i0 _ Tryz.underlying75 hi hz0 hz1 rfl _ _ (s.size + (k + 1)) (congrArg (Value.int .i64) e1.out) (congrArg (Value.int .i64) e1.out) (by rw [hz2]; omega) (by omega) ?_)
  rw [R_made]
  have h1 := h1_0 w (Obj.cells (R (List.replicate (s.size + (k + 1)) 0)) 5)
  have b1 := below_one w (Obj.cells (R (List.replicate (s.size + (k + 1)) 0)) 5)
  generalize w.alloc (Obj.cells (R (List.replicate (s.size + (k + 1)) 0)) 5) = W1 at *
  have hr := fun ty => Lib.run_copy_row_string (P := Tryz.prog) W1 75 9 ty 5 w.heap.size 0 (s.size + (k + 1)) (s.size + (k + 1)) s _ 5 Tryz.underlying75 info1 h1 (by omega) (by rw [R_size]; simp)
  rw [R_copy] at hr
  have h2 := setRow_at h1 (R (s.data.toList ++ List.replicate (k + 1) 0))
  have b2 := below_setRow b1 (Nat.le_refl _) (R (s.data.toList ++ List.replicate (k + 1) 0))
  generalize W1.setRow w.heap.size (R (s.data.toList ++ List.replicate (k + 1) 0)) = W2 at *
  have c0 : W2.cell? ⟨w.heap.size, s.size, none⟩ = some (.int .u8 0) := by
    have e := R_at s.data.toList (List.replicate k 0) 0
    rw [len_size] at e
    rw [cell_of_row W2 _ _ _ _ _ h2, List.replicate_succ, e]
    rfl
  have f0 := R_frozen h2 s.size
  have q0 : (0 : Int) ≤ (s.size : Int) := by omega
  have q1 : (s.size : Int) < ((s.size + (k + 1) : Nat) : Int) := by omega
  have h3 := setCell_heap h2 s.size (.int .u8 128)
  have b3 := below_setCell b2 (Nat.le_refl w.heap.size) s.size (.int .u8 128)
  rw [show (R (s.data.toList ++ List.replicate (k + 1) 0)).setIfInBounds s.size (.int .u8 128) = R (s.data.toList ++ 128 :: List.replicate k 0) by rw [← R_set, len_size]] at h3
  have cv := R_str (P := Tryz.prog) (src := 75) (dst := 9) (e := 5) Tryz.underlying75 Tryz.underlying5 Tryz.underlying9 h3 (s.size + (k + 1))
  rw [show (s.data.toList ++ (128 : UInt8) :: List.replicate k 0).length = s.size + (k + 1) by simp, ← eF.out] at cv
  rw [hr]
  go_wp2
  go_ret
  exact ⟨rfl, b3⟩
set_option maxRecDepth 100000 in
set_option maxHeartbeats 1600000 in
theorem filled_one (s : ByteArray) (hs : s.size ≤ 140737488400000) (w : World) :
    Calls Tryz.prog 37 #[.int .i64 1, .string s] w fun e w' => e = .returned (.string (fillB 1 s)) ∧ Below w.heap.size w w' := by
  obtain ⟨i0, hi, hz0, hz1, hz2⟩ := info_parts info
  obtain ⟨k, hk⟩ : ∃ k, 8 * nb s.size = s.size + k := ⟨8 * nb s.size - s.size, by have := nb_ge s.size; omega⟩
  have hk2 : k ≤ 8 := by have := nb_le s.size; omega
  have e1 : Hid ((max (s.size : Int) 1 + 8 - 1) / 8 * 8 = ((s.size + k : Nat) : Int)) := (by unfold nb at hk; omega : (max (s.size : Int) 1 + 8 - 1) / 8 * 8 = ((s.size + k : Nat) : Int))
  have eF' : fillB 1 s = (⟨(s.data.toList ++ List.replicate k 0).toArray⟩ : ByteArray) := by rw [fillB, fillL, if_neg (by decide), padL, len_size, hk, show s.size + k - s.size = k by omega]
  have eF : Hid (fillB 1 s = (⟨(s.data.toList ++ List.replicate k 0).toArray⟩ : ByteArray)) := eF'
  clear eF'
  have m1 : max (s.size : Int) 1 ≤ 140737488400001 := by omega
  have m2 : 1 ≤ max (s.size : Int) 1 := by omega
  clear hk
  go_enter Tryz.func37, Tryz.ntmps37
  go_wp2_with (at_make; refine wpList_make_row _ rfl _ _ 75 rfl 5 i0 _ Tryz.underlying75 hi hz0 hz1 rfl _ _ (s.size + k) (congrArg (Value.int .i64) e1.out) (congrArg (Value.int .i64) e1.out) (by rw [hz2]; omega) (by omega) ?_)
  rw [R_made]
  have h1 := h1_0 w (Obj.cells (R (List.replicate (s.size + k) 0)) 5)
  have b1 := below_one w (Obj.cells (R (List.replicate (s.size + k) 0)) 5)
  generalize w.alloc (Obj.cells (R (List.replicate (s.size + k) 0)) 5) = W1 at *
  have hr := fun ty => Lib.run_copy_row_string (P := Tryz.prog) W1 75 9 ty 5 w.heap.size 0 (s.size + k) (s.size + k) s _ 5 Tryz.underlying75 info1 h1 (by omega) (by rw [R_size]; simp)
  rw [R_copy] at hr
  have h2 := setRow_at h1 (R (s.data.toList ++ List.replicate k 0))
  have b2 := below_setRow b1 (Nat.le_refl _) (R (s.data.toList ++ List.replicate k 0))
  generalize W1.setRow w.heap.size (R (s.data.toList ++ List.replicate k 0)) = W2 at *
  have cv := R_str (P := Tryz.prog) (src := 75) (dst := 9) (e := 5) Tryz.underlying75 Tryz.underlying5 Tryz.underlying9 h2 (s.size + k)
  rw [show (s.data.toList ++ List.replicate k (0 : UInt8)).length = s.size + k by simp, ← eF.out] at cv
  rw [hr]
  go_wp2
  go_ret
  exact ⟨rfl, b2⟩
end Go.Proofs.YtpifebapodfeaaaGreat.Pd
/- Pad: the program's and the document's; Same. -/
namespace Go.Proofs.YtpifebapodfeaaaGreat.Pe
set_option linter.unusedVariables false
open Go.RowKit Cb Fp Sm Pd
theorem filled_any (m : Nat) (hm : m = 1 ∨ m = 2) (s : ByteArray) (hs : s.size ≤ 140737488400000) (w : World) :
    Calls Tryz.prog 37 #[.int .i64 (m : Int), .string s] w fun e w' => e = .returned (.string (fillB m s)) ∧ Below w.heap.size w w' := by
  rcases hm with rfl | rfl
  · exact filled_one s hs w
  · exact filled_two s hs w
theorem method_any (a : Int) (w : World) : Calls Tryz.prog 45 #[.int .i64 a] w fun e w' => e = .returned (.bool (a == 1 || a == 2)) ∧ w' = w := by
  by_cases h : a = 1
  · subst h
    go_enter Tryz.func45, Tryz.ntmps45
    go_wp2
    go_ret
    exact ⟨rfl, rfl⟩
  · have q : (a == 1) = false := by simpa using h
    go_enter Tryz.func45, Tryz.ntmps45
    go_wp2
    go_ret
    exact ⟨by simp [h], rfl⟩
/-- the document's -/
def zs (k : Nat) : ByteArray := ⟨(List.replicate k 0).toArray⟩
theorem zs_size (k : Nat) : (zs k).size = k := by show (List.replicate k (0 : UInt8)).toArray.size = k; simp
theorem zs_succ (s : ByteArray) (k : Nat) : s ++ zs k ++ (⟨#[0]⟩ : ByteArray) = s ++ zs (k + 1) := by
  apply ByteArray.ext
  simp [zs, List.replicate_succ']
  apply Array.ext'
  simp
theorem zs_zero (s : ByteArray) : s ++ zs 0 = s := by
  apply ByteArray.ext
  simp [zs]
theorem zs_fill (s : ByteArray) : s ++ zs (8 * nb s.size - s.size) = ⟨(padL s.data.toList).toArray⟩ := by
  apply ByteArray.ext
  apply Array.ext'
  simp [zs, padL]
theorem loop_out (n k : Nat) (h : n + k ≤ 8 * nb n) (q1 : (n + k) % 8 = 0) (q2 : n + k ≠ 0) : k = 8 * nb n - n := by unfold nb at *; omega
theorem loop_in (n k : Nat) (h : n + k ≤ 8 * nb n) (q : (n + k) % 8 ≠ 0 ∨ n + k = 0) : n + (k + 1) ≤ 8 * nb n := by unfold nb at *; omega
set_option maxRecDepth 100000 in
set_option maxHeartbeats 1600000 in
theorem padr_one (s : ByteArray) (hs : s.size ≤ 140737488400000) (w : World) :
    Calls Tryz.prog 41 #[.int .i64 1, .string s] w fun e w' => e = .returned (.tuple #[.string (fillB 1 s), .int .i64 0]) ∧ w' = w := by
  have c1 : ¬ 9223372036854775807 < s.size + 0 := by omega
  obtain ⟨S, hS⟩ : ∃ S, S = s ++ (⟨#[]⟩ : ByteArray) := ⟨_, rfl⟩
  have hz : S.size = s.size + 0 := by rw [hS, ByteArray.size_append]; rfl
  have hF : (⟨(padL S.data.toList).toArray⟩ : ByteArray) = fillB 1 s := by
    rw [fillB, hS]
    simp [fillL]
  have hz2 : S.size ≤ 140737488400001 := by omega
  have Hz : Hid (S.size = s.size + 0) := hz
  clear hz
  go_enter Tryz.func41, Tryz.ntmps41
  go_wp2
  go_loopw [1] (fun v wr => ∃ (k : Nat), v = .string (S ++ zs k) ∧ S.size + k ≤ 8 * nb S.size ∧ wr = w) (fun v _ => 8 * nb S.size - (match v with | .string t => t.size | _ => 0))
  case atStart => exact ⟨0, by rw [zs_zero, hS], by have := nb_ge S.size; omega, rfl⟩
  case round =>
    obtain ⟨k, rfl, hk, rfl⟩ := hrel
    have hn : (S ++ zs k).size = S.size + k := by rw [ByteArray.size_append, zs_size]
    have hb := nb_le S.size
    by_cases hc : (S.size + k) % 8 ≠ 0 ∨ S.size + k = 0
    · have hi := loop_in S.size k hk hc
      have hs2 := zs_succ S k
      have hn2 : Hid ((S ++ zs (k + 1)).size = S.size + (k + 1)) := (by rw [ByteArray.size_append, zs_size] : (S ++ zs (k + 1)).size = S.size + (k + 1))
      have HT : Hid ((S ++ zs k).size = S.size + k) := hn
      have Hs2 : Hid ((S ++ zs k) ++ (⟨#[0]⟩ : ByteArray) = S ++ zs (k + 1)) := hs2
      obtain ⟨T, hT⟩ : ∃ T, T = S ++ zs k := ⟨_, rfl⟩
      rw [← hT] at HT Hs2 ⊢
      have c2 : ¬ 9223372036854775807 < T.size + 1 := by have := HT.out; omega
      have hgo : ((T.size : Int) % 8 != 0 ∨ (T.size : Int) == 0) := by
        have := HT.out
        rcases hc with h | h
        · left; simp only [bne_iff_ne]; omega
        · right; simp only [beq_iff_eq]; omega
      clear hn hs2 hc hT
      by_cases h8 : T.size % 8 = 0
      · have q1 : ((T.size : Int) % 8 != 0) = false := by simp only [bne_eq_false_iff_eq]; omega
        have q2 : ((T.size : Int) == 0) = true := by
          rcases hgo with h | h
          · rw [q1] at h; cases h
          · exact h
        clear hgo h8
        go_wp2
        exact ⟨⟨k + 1, by rw [Hs2.out], hi, trivial⟩, by show _ - (T ++ _).size < _ - T.size; rw [Hs2.out, hn2.out, HT.out]; omega⟩
      · have q1 : ((T.size : Int) % 8 != 0) = true := by simp only [bne_iff_ne]; omega
        clear hgo h8
        go_wp2
        exact ⟨⟨k + 1, by rw [Hs2.out], hi, trivial⟩, by show _ - (T ++ _).size < _ - T.size; rw [Hs2.out, hn2.out, HT.out]; omega⟩
    · have hk8 := loop_out S.size k hk (by omega) (by omega)
      have q1 : (((S ++ zs k).size : Int) % 8 != 0) = false := by simp only [bne_eq_false_iff_eq]; omega
      have q2 : (((S ++ zs k).size : Int) == 0) = false := by simp only [beq_eq_false_iff_ne]; omega
      have HF : Hid (S ++ zs k = fillB 1 s) := (by rw [← hF, ← zs_fill S, ← hk8] : S ++ zs k = fillB 1 s)
      generalize S ++ zs k = T at *
      clear hn hc hk8 hF
      go_wp2
      exact bodyPost_ret (v := .tuple #[.string (fillB 1 s), .int .i64 0]) (by rw [← HF.out]; simp [results, Tryz.results41, go_sem]) rfl ⟨rfl, rfl⟩
set_option maxRecDepth 100000 in
set_option maxHeartbeats 1600000 in
theorem padr_two (s : ByteArray) (hs : s.size ≤ 140737488400000) (w : World) :
    Calls Tryz.prog 41 #[.int .i64 2, .string s] w fun e w' => e = .returned (.tuple #[.string (fillB 2 s), .int .i64 0]) ∧ w' = w := by
  have c1 : ¬ 9223372036854775807 < s.size + 1 := by omega
  obtain ⟨S, hS⟩ : ∃ S, S = s ++ (⟨#[128]⟩ : ByteArray) := ⟨_, rfl⟩
  have hz : S.size = s.size + 1 := by rw [hS, ByteArray.size_append]; rfl
  have hF : (⟨(padL S.data.toList).toArray⟩ : ByteArray) = fillB 2 s := by
    rw [fillB, hS]
    simp [fillL]
  have hz2 : S.size ≤ 140737488400001 := by omega
  have Hz : Hid (S.size = s.size + 1) := hz
  clear hz
  go_enter Tryz.func41, Tryz.ntmps41
  go_wp2
  go_loopw [1] (fun v wr => ∃ (k : Nat), v = .string (S ++ zs k) ∧ S.size + k ≤ 8 * nb S.size ∧ wr = w) (fun v _ => 8 * nb S.size - (match v with | .string t => t.size | _ => 0))
  case atStart => exact ⟨0, by rw [zs_zero, hS], by have := nb_ge S.size; omega, rfl⟩
  case round =>
    obtain ⟨k, rfl, hk, rfl⟩ := hrel
    have hn : (S ++ zs k).size = S.size + k := by rw [ByteArray.size_append, zs_size]
    have hb := nb_le S.size
    by_cases hc : (S.size + k) % 8 ≠ 0 ∨ S.size + k = 0
    · have hi := loop_in S.size k hk hc
      have hs2 := zs_succ S k
      have hn2 : Hid ((S ++ zs (k + 1)).size = S.size + (k + 1)) := (by rw [ByteArray.size_append, zs_size] : (S ++ zs (k + 1)).size = S.size + (k + 1))
      have HT : Hid ((S ++ zs k).size = S.size + k) := hn
      have Hs2 : Hid ((S ++ zs k) ++ (⟨#[0]⟩ : ByteArray) = S ++ zs (k + 1)) := hs2
      obtain ⟨T, hT⟩ : ∃ T, T = S ++ zs k := ⟨_, rfl⟩
      rw [← hT] at HT Hs2 ⊢
      have c2 : ¬ 9223372036854775807 < T.size + 1 := by have := HT.out; omega
      have hgo : ((T.size : Int) % 8 != 0 ∨ (T.size : Int) == 0) := by
        have := HT.out
        rcases hc with h | h
        · left; simp only [bne_iff_ne]; omega
        · right; simp only [beq_iff_eq]; omega
      clear hn hs2 hc hT
      by_cases h8 : T.size % 8 = 0
      · have q1 : ((T.size : Int) % 8 != 0) = false := by simp only [bne_eq_false_iff_eq]; omega
        have q2 : ((T.size : Int) == 0) = true := by
          rcases hgo with h | h
          · rw [q1] at h; cases h
          · exact h
        clear hgo h8
        go_wp2
        exact ⟨⟨k + 1, by rw [Hs2.out], hi, trivial⟩, by show _ - (T ++ _).size < _ - T.size; rw [Hs2.out, hn2.out, HT.out]; omega⟩
      · have q1 : ((T.size : Int) % 8 != 0) = true := by simp only [bne_iff_ne]; omega
        clear hgo h8
        go_wp2
        exact ⟨⟨k + 1, by rw [Hs2.out], hi, trivial⟩, by show _ - (T ++ _).size < _ - T.size; rw [Hs2.out, hn2.out, HT.out]; omega⟩
    · have hk8 := loop_out S.size k hk (by omega) (by omega)
      have q1 : (((S ++ zs k).size : Int) % 8 != 0) = false := by simp only [bne_eq_false_iff_eq]; omega
      have q2 : (((S ++ zs k).size : Int) == 0) = false := by simp only [beq_eq_false_iff_ne]; omega
      have HF : Hid (S ++ zs k = fillB 2 s) := (by rw [← hF, ← zs_fill S, ← hk8] : S ++ zs k = fillB 2 s)
      generalize S ++ zs k = T at *
      clear hn hc hk8 hF
      go_wp2
      exact bodyPost_ret (v := .tuple #[.string (fillB 2 s), .int .i64 0]) (by rw [← HF.out]; simp [results, Tryz.results41, go_sem]) rfl ⟨rfl, rfl⟩
theorem padr_good (m : Nat) (hm : m = 1 ∨ m = 2) (s : ByteArray) (hs : s.size ≤ 140737488400000) (w : World) :
    Calls Tryz.prog 41 #[.int .i64 (m : Int), .string s] w fun e w' => e = .returned (.tuple #[.string (fillB m s), .int .i64 0]) ∧ w' = w := by
  rcases hm with rfl | rfl
  · exact padr_one s hs w
  · exact padr_two s hs w
theorem padr_bad (a : Int) (q1 : (a == 1) = false) (q2 : (a == 2) = false) (s : ByteArray) (w : World) :
    Calls Tryz.prog 41 #[.int .i64 a, .string s] w fun e w' => e = .returned (.tuple #[.string ⟨#[]⟩, .int .i64 1]) ∧ w' = w := by
  go_enter Tryz.func41, Tryz.ntmps41
  go_wp2
  exact bodyPost_ret (v := .tuple #[.string ⟨#[]⟩, .int .i64 1]) (by simp [results, Tryz.results41, go_sem]) rfl ⟨rfl, rfl⟩
end Go.Proofs.YtpifebapodfeaaaGreat.Pe
/- newSealer. -/
namespace Go.Proofs.YtpifebapodfeaaaGreat.Se
set_option linter.unusedVariables false
open Go.RowKit Pla Cb Sm Wd Nw Bk Eb Et Cc Ch Pm Fp Sp Pe
theorem four {w : World} {g : Nat} {a b c d : Value} {t : TypeId} (h : w.heap[g]? = some (.cells #[a, b, c, d] t)) :
    w.cell? ⟨g, 0, none⟩ = some a ∧ w.cell? ⟨g, 1, none⟩ = some b ∧ w.cell? ⟨g, 2, none⟩ = some c ∧ w.cell? ⟨g, 3, none⟩ = some d ∧ w.frozen? ⟨g, 2, none⟩ = false ∧ w.frozen? ⟨g, 3, none⟩ = false := by
  refine ⟨?_, ?_, ?_, ?_, ?_, ?_⟩ <;> simp [World.cell?, World.frozen?, h]
/-- a sealer that is made ready -/
def Sealed (w : World) (g : Nat) (alg m : Nat) (key : List UInt8) : Prop := ∃ (g1 : Nat) (p2 : Value), w.heap[g]? = some (.cells #[.int .i64 (alg : Int), .int .i64 (m : Int), .pointer (some ⟨g1, 0, none⟩), p2] 83) ∧ Key w g1 1 (key.take 8) ∧ (alg = 3 → ∃ g2, p2 = .pointer (some ⟨g2, 0, none⟩) ∧ Key w g2 1 (key.drop 8))
theorem Sealed.kept {a x : World} {g alg m : Nat} {key : List UInt8} (h : Below a.heap.size a x) (hs : Sealed a g alg m key) : Sealed x g alg m key := by
  obtain ⟨g1, p2, h1, h2, h3⟩ := hs
  exact ⟨g1, p2, Cb.kept h h1, key_kept h h2, fun e => by obtain ⟨g2, e2, k2⟩ := h3 e; exact ⟨g2, e2, key_kept h k2⟩⟩
def ksz (a : Int) : Int := if a = 1 then 8 else if a = 3 then 16 else 0
theorem size_any (a : Int) (w : World) : Calls Tryz.prog 44 #[.int .i64 a] w fun e w' => e = .returned (.int .i64 (ksz a)) ∧ w' = w := by
  by_cases h1 : a = 1
  · subst h1
    go_enter Tryz.func44, Tryz.ntmps44
    go_wp2
    go_ret
    exact ⟨rfl, rfl⟩
  · by_cases h3 : a = 3
    · subst h3
      go_enter Tryz.func44, Tryz.ntmps44
      go_wp2
      go_ret
      exact ⟨rfl, rfl⟩
    · have q1 : (a == 1) = false := by simpa using h1
      have q3 : (a == 3) = false := by simpa using h3
      go_enter Tryz.func44, Tryz.ntmps44
      go_wp2
      go_ret
      exact ⟨by rw [ksz, if_neg h1, if_neg h3]; rfl, rfl⟩
/-- refused: no such algorithm, or no such method -/
theorem new_arg (a b : Int) (h : ((ksz a == 0) || !(b == 1 || b == 2)) = true) (key : ByteArray) (w : World) : Calls Tryz.prog 26 #[.int .i64 a, .int .i64 b, .string key] w fun e w' => e = .returned (.tuple #[.pointer none, .int .i64 1]) ∧ w' = w := by
  have ME := fun y => method_any b y
  have SZ := fun y => size_any a y
  by_cases hz : ksz a == 0
  · go_enter Tryz.func26, Tryz.ntmps26
    go_wp2_with (first
      | (go_at_call 44; refine (SZ _).mono ?_; rintro e x ⟨rfl, hx⟩; rw [hx])
      | (go_at_call 45; refine (ME _).mono ?_; rintro e x ⟨rfl, hx⟩; rw [hx]))
    exact bodyPost_ret (v := .tuple #[.pointer none, .int .i64 1]) (by simp [results, Tryz.results26, go_sem]) rfl ⟨rfl, rfl⟩
  · have hz' : (ksz a == 0) = false := by simpa using hz
    rw [hz'] at h
    have hb : (b == 1 || b == 2) = false := by simpa using h
    rw [hb] at ME
    clear h hz
    go_enter Tryz.func26, Tryz.ntmps26
    go_wp2_with (first
      | (go_at_call 44; refine (SZ _).mono ?_; rintro e x ⟨rfl, hx⟩; rw [hx])
      | (go_at_call 45; refine (ME _).mono ?_; rintro e x ⟨rfl, hx⟩; rw [hx]))
    exact bodyPost_ret (v := .tuple #[.pointer none, .int .i64 1]) (by simp [results, Tryz.results26, go_sem]) rfl ⟨rfl, rfl⟩
/-- refused: the key's length -/
theorem new_key (a b : Int) (ha : (ksz a == 0) = false) (hb : (b == 1 || b == 2) = true) (key : ByteArray) (hk : ((key.size : Int) != ksz a) = true) (w : World) : Calls Tryz.prog 26 #[.int .i64 a, .int .i64 b, .string key] w fun e w' => e = .returned (.tuple #[.pointer none, .int .i64 30]) ∧ w' = w := by
  have ME := fun y => method_any b y
  have SZ := fun y => size_any a y
  rw [hb] at ME
  go_enter Tryz.func26, Tryz.ntmps26
  go_wp2_with (first
    | (go_at_call 44; refine (SZ _).mono ?_; rintro e x ⟨rfl, hx⟩; rw [hx])
    | (go_at_call 45; refine (ME _).mono ?_; rintro e x ⟨rfl, hx⟩; rw [hx]))
  exact bodyPost_ret (v := .tuple #[.pointer none, .int .i64 30]) (by simp [results, Tryz.results26, go_sem]) rfl ⟨rfl, rfl⟩
theorem ext_take (s : ByteArray) (n : Nat) : (s.extract 0 n).data.toList = s.data.toList.take n := by simp
theorem ext_drop (s : ByteArray) (n : Nat) : (s.extract n s.size).data.toList = s.data.toList.drop n := by
  simp only [ByteArray.data_extract, Array.toList_extract, List.extract_eq_take_drop]
  rw [List.take_of_length_le (by simp)]
theorem key_set {w : World} {g K b o : Nat} {l : List UInt8} {v : Value} (h : Key w g K l) (hb : b ≠ g) : Key (w.setCell ⟨b, o, none⟩ v) g K l := (Below.heap_setCell w ⟨b, o, none⟩ v g hb.symm).trans h
theorem key8 (key : ByteArray) (h : 8 ≤ key.size) : Hid (kindN (key.extract 0 8).size = 1) := (by rw [ByteArray.size_extract, show min 8 key.size - 0 = 8 by omega]; rfl : kindN (key.extract 0 8).size = 1)
theorem key16 (key : ByteArray) (h : key.size = 16) : Hid (kindN (key.extract 8 key.size).size = 1) := (by rw [ByteArray.size_extract, h]; rfl : kindN (key.extract 8 key.size).size = 1)
set_option maxRecDepth 100000 in
set_option maxHeartbeats 1600000 in
theorem new_one (m : Nat) (hm : m = 1 ∨ m = 2) (key : ByteArray) (hk : key.size = 8) (w : World) : Calls Tryz.prog 26 #[.int .i64 1, .int .i64 (m : Int), .string key] w fun e w' => ∃ g, e = .returned (.tuple #[.pointer (some ⟨g, 0, none⟩), .int .i64 0]) ∧ w.heap.size ≤ g ∧ Sealed w' g 1 m key.data.toList ∧ Below w.heap.size w w' := by
  have ME := fun y => method_any (m : Int) y
  rw [show (((m : Int) == 1) || ((m : Int) == 2)) = true by rcases hm with rfl | rfl <;> rfl] at ME
  have SZ := fun y => size_any 1 y
  rw [show ksz 1 = 8 from rfl] at SZ
  have q : ((key.size : Int) != 8) = false := by simp only [bne_eq_false_iff_eq]; omega
  have q8 : (8 : Int) ≤ (key.size : Int) := by omega
  have NE := new_good (key.extract 0 8) 1 (key8 key (by omega)) (by decide) (by decide)
  rw [ext_take] at NE
  clear hk hm
  go_enter Tryz.func26, Tryz.ntmps26
  go_wp2_with (first
    | (go_at_call 44; refine (SZ _).mono ?_; rintro e x ⟨rfl, hx⟩; rw [hx])
    | (go_at_call 45; refine (ME _).mono ?_; rintro e x ⟨rfl, hx⟩; rw [hx])
    | (go_at_call 46; refine (NE _).mono ?_; rintro e y ⟨g, rfl, hg, hy, hby⟩; have hr := Cb.kept hby (h1_0 w _); obtain ⟨c0, c1, c2, c3, f2, f3⟩ := four hr))
  refine bodyPost_ret (v := .tuple #[.pointer (some ⟨w.heap.size, 0, none⟩), .int .i64 0]) (by simp [results, Tryz.results26, go_sem]) rfl ⟨_, rfl, Nat.le_refl _, ⟨g, _, setCell_heap hr 2 _, key_set hy (by simp at hg; omega), fun e => by cases e⟩, below_setCell (keepB (below_one w _) hby) (Nat.le_refl _) _ _⟩
set_option maxRecDepth 100000 in
set_option maxHeartbeats 1600000 in
theorem new_three (m : Nat) (hm : m = 1 ∨ m = 2) (key : ByteArray) (hk : key.size = 16) (w : World) : Calls Tryz.prog 26 #[.int .i64 3, .int .i64 (m : Int), .string key] w fun e w' => ∃ g, e = .returned (.tuple #[.pointer (some ⟨g, 0, none⟩), .int .i64 0]) ∧ w.heap.size ≤ g ∧ Sealed w' g 3 m key.data.toList ∧ Below w.heap.size w w' := by
  have ME := fun y => method_any (m : Int) y
  rw [show (((m : Int) == 1) || ((m : Int) == 2)) = true by rcases hm with rfl | rfl <;> rfl] at ME
  have SZ := fun y => size_any 3 y
  rw [show ksz 3 = 16 from rfl] at SZ
  have q : ((key.size : Int) != 16) = false := by simp only [bne_eq_false_iff_eq]; omega
  have q8 : (8 : Int) ≤ (key.size : Int) := by omega
  have NE := new_good (key.extract 0 8) 1 (key8 key (by omega)) (by decide) (by decide)
  have NF := new_good (key.extract 8 key.size) 1 (key16 key hk) (by decide) (by decide)
  rw [ext_take] at NE
  rw [ext_drop] at NF
  clear hk hm
  obtain ⟨k1, hk1⟩ : ∃ k1, k1 = key.extract 0 8 := ⟨_, rfl⟩
  go_enter Tryz.func26, Tryz.ntmps26
  go_wp2_with (first
    | (go_at_call 44; refine (SZ _).mono ?_; rintro e x ⟨rfl, hx⟩; rw [hx])
    | (go_at_call 45; refine (ME _).mono ?_; rintro e x ⟨rfl, hx⟩; rw [hx])
    | (go_at_call_of 46 (Value.string (key.extract 0 8)); refine (NE _).mono ?_; rintro e y ⟨g, rfl, hg, hy, hby⟩; have hr := Cb.kept hby (h1_0 w _); obtain ⟨c0, c1, c2, c3, f2, f3⟩ := four hr; have hr2 := setCell_heap hr 2 (.pointer (some ⟨g, 0, none⟩)); have hy2 := key_set (b := w.heap.size) (o := 2) (v := .pointer (some ⟨g, 0, none⟩)) hy (by simp at hg; omega))
    | (go_at_call 46; refine (NF _).mono ?_; rintro e z ⟨g2, rfl, hg2, hz, hbz⟩; have hr3 := Cb.kept hbz hr2; obtain ⟨d0, d1, d2, d3, k2, k3⟩ := four hr3))
  have hb1 : Below w.heap.size w (y.setCell ⟨w.heap.size, 2, none⟩ (.pointer (some ⟨g, 0, none⟩))) := below_setCell (keepB (below_one w _) hby) (Nat.le_refl _) _ _
  have hb2 := keepB hb1 hbz
  have hgs : w.heap.size ≠ g := by simp at hg; omega
  have hgs2 : w.heap.size ≠ g2 := by have := hb1.size; have := (Array.getElem?_eq_some_iff.1 hr2).1; omega
  refine bodyPost_ret (v := .tuple #[.pointer (some ⟨w.heap.size, 0, none⟩), .int .i64 0]) (by simp [results, Tryz.results26, go_sem]) rfl ⟨_, rfl, Nat.le_refl _, ⟨g, _, setCell_heap hr3 3 _, key_set (key_kept hbz hy2) hgs, fun e => ⟨g2, rfl, key_set hz hgs2⟩⟩, below_setCell hb2 (Nat.le_refl _) _ _⟩
theorem new_any (alg m : Nat) (ha : alg = 1 ∨ alg = 3) (hm : m = 1 ∨ m = 2) (key : ByteArray) (hk : key.size = 4 + 4 * alg) (w : World) : Calls Tryz.prog 26 #[.int .i64 (alg : Int), .int .i64 (m : Int), .string key] w fun e w' => ∃ g, e = .returned (.tuple #[.pointer (some ⟨g, 0, none⟩), .int .i64 0]) ∧ w.heap.size ≤ g ∧ Sealed w' g alg m key.data.toList ∧ Below w.heap.size w w' := by
  rcases ha with rfl | rfl
  · exact new_one m hm key (by omega) w
  · exact new_three m hm key (by omega) w
end Go.Proofs.YtpifebapodfeaaaGreat.Se
/- Contracts of the library, laid at this dump (by the kit's own tool), in plain words. -/
namespace Go.Proofs
open Go.Shelf
def Tryz.lays135_ren : Go.Shelf.Ren := ⟨fun | 135 => 107 | n => n, fun | 5 => 5 | 3 => 3 | 9 => 9 | n => n, fun | n => n⟩
theorem Tryz.lays135 : Go.Proofs.Lays.n135 Tryz.prog Tryz.lays135_ren := {
  mixed := by kernel_rfl
  f135 := Tryz.func107.trans (congrArg some (by kernel_rfl))
  t3 := Tryz.underlying3
  a3 := Tryz.isAgg3
  z3 := Tryz.sizeOf3
  v3 := Tryz.zeroValue3
  t5 := Tryz.underlying5
  a5 := Tryz.isAgg5
  z5 := Tryz.sizeOf5
  v5 := Tryz.zeroValue5
  t9 := Tryz.underlying9
  a9 := Tryz.isAgg9
  z9 := Tryz.sizeOf9
  v9 := Tryz.zeroValue9 }
theorem Tryz.bits_OnesCount8 (x : Int) (w : World) (h0 : 0 ≤ x) (h1 : x ≤ 255) :
    Calls Tryz.prog 107 #[.int .u8 x] w fun e w' => e = .returned (.int .i64 (Lib.onesCount x.toNat)) ∧ w' = w := Any.bits_OnesCount8 Tryz.lays135 x w h0 h1
def Tryz.laysM316_ren : Go.Shelf.Ren := ⟨fun | 316 => 64 | n => n, fun | 9 => 9 | 3 => 3 | 4 => 4 | 37 => 75 | 0 => 0 | 127 => 127 | 5 => 5 | n => n, fun | n => n⟩
theorem Tryz.laysM316 : Go.Proofs.LaysM.n316 Tryz.prog Tryz.laysM316_ren := {
  mixed := by kernel_rfl
  f316 := Tryz.func64.trans (congrArg some (by kernel_rfl))
  t0 := Tryz.underlying0
  a0 := Tryz.isAgg0
  z0 := Tryz.sizeOf0
  v0 := Tryz.zeroValue0
  t3 := Tryz.underlying3
  a3 := Tryz.isAgg3
  z3 := Tryz.sizeOf3
  v3 := Tryz.zeroValue3
  t4 := Tryz.underlying4
  a4 := Tryz.isAgg4
  z4 := Tryz.sizeOf4
  v4 := Tryz.zeroValue4
  t9 := Tryz.underlying9
  a9 := Tryz.isAgg9
  z9 := Tryz.sizeOf9
  v9 := Tryz.zeroValue9
  t37 := Tryz.underlying75
  a37 := Tryz.isAgg75
  z37 := Tryz.sizeOf75
  v37 := Tryz.zeroValue75
  t127 := Tryz.underlying127
  a127 := Tryz.isAgg127
  z127 := Tryz.sizeOf127
  v127 := Tryz.zeroValue127
  t5 := Tryz.underlying5
  a5 := Tryz.isAgg5
  z5 := Tryz.sizeOf5
  v5 := Tryz.zeroValue5
  i0 := by kernel_rfl
  i3 := by kernel_rfl
  i4 := by kernel_rfl
  i5 := by kernel_rfl
  i9 := by kernel_rfl
  i37 := by kernel_rfl
  i127 := by kernel_rfl }
open Go.RowKit in
theorem Tryz.stringslite_Clone (s : ByteArray) (w : World) (hlim : s.size ≤ 281474976710656) :
    Calls Tryz.prog 64 #[.string s] w fun e w' => e = .returned (.string s) ∧ Below w.heap.size w w' := Any.stringslite_Clone Tryz.laysM316 s w hlim
end Go.Proofs
