/- newSealer. -/
import Derived.Test.YtpifebapodfeaabSp
import Derived.Test.YtpifebapodfeaabPe
namespace Go.Proofs.Ytpifebapodfeaab.Se
set_option linter.unusedVariables false
open Go.RowKit Pla Cb Sm Wd Nw Bk Eb Et Cc Ch Pm Fp Sp Pe
theorem four {w : World} {g : Nat} {a b c d : Value} {t : TypeId} (h : w.heap[g]? = some (.cells #[a, b, c, d] t)) :
    w.cell? ⟨g, 0, none⟩ = some a ∧ w.cell? ⟨g, 1, none⟩ = some b ∧ w.cell? ⟨g, 2, none⟩ = some c ∧ w.cell? ⟨g, 3, none⟩ = some d ∧ w.frozen? ⟨g, 2, none⟩ = false ∧ w.frozen? ⟨g, 3, none⟩ = false := by
  refine ⟨?_, ?_, ?_, ?_, ?_, ?_⟩ <;> simp [World.cell?, World.frozen?, h]
/-- a sealer that is made ready -/
def Sealed (w : World) (g : Nat) (alg m : Nat) (key : List UInt8) : Prop := ∃ (g1 : Nat) (p2 : Value), w.heap[g]? = some (.cells #[.int .i64 (alg : Int), .int .i64 (m : Int), .pointer (some ⟨g1, 0, none⟩), p2] 81) ∧ Key w g1 1 (key.take 8) ∧ (alg = 3 → ∃ g2, p2 = .pointer (some ⟨g2, 0, none⟩) ∧ Key w g2 1 (key.drop 8))
theorem Sealed.kept {a x : World} {g alg m : Nat} {key : List UInt8} (h : Below a.heap.size a x) (hs : Sealed a g alg m key) : Sealed x g alg m key := by
  obtain ⟨g1, p2, h1, h2, h3⟩ := hs
  exact ⟨g1, p2, Cb.kept h h1, key_kept h h2, fun e => by obtain ⟨g2, e2, k2⟩ := h3 e; exact ⟨g2, e2, key_kept h k2⟩⟩
def ksz (a : Int) : Int := if a = 1 then 8 else if a = 3 then 16 else 0
theorem size_any (a : Int) (w : World) : Calls Try.prog 33 #[.int .i64 a] w fun e w' => e = .returned (.int .i64 (ksz a)) ∧ w' = w := by
  by_cases h1 : a = 1
  · subst h1
    go_enter Try.func33, Try.ntmps33
    go_wp2
    go_ret
    exact ⟨rfl, rfl⟩
  · by_cases h3 : a = 3
    · subst h3
      go_enter Try.func33, Try.ntmps33
      go_wp2
      go_ret
      exact ⟨rfl, rfl⟩
    · have q1 : (a == 1) = false := by simpa using h1
      have q3 : (a == 3) = false := by simpa using h3
      go_enter Try.func33, Try.ntmps33
      go_wp2
      go_ret
      exact ⟨by rw [ksz, if_neg h1, if_neg h3]; rfl, rfl⟩
/-- refused: no such algorithm, or no such method -/
theorem new_arg (a b : Int) (h : ((ksz a == 0) || !(b == 1 || b == 2)) = true) (key : ByteArray) (w : World) : Calls Try.prog 21 #[.int .i64 a, .int .i64 b, .string key] w fun e w' => e = .returned (.tuple #[.pointer none, .int .i64 1]) ∧ w' = w := by
  have ME := fun y => method_any b y
  have SZ := fun y => size_any a y
  by_cases hz : ksz a == 0
  · go_enter Try.func21, Try.ntmps21
    go_wp2_with (first
      | (go_at_call 33; refine (SZ _).mono ?_; rintro e x ⟨rfl, hx⟩; rw [hx])
      | (go_at_call 39; refine (ME _).mono ?_; rintro e x ⟨rfl, hx⟩; rw [hx]))
    exact bodyPost_ret (v := .tuple #[.pointer none, .int .i64 1]) (by simp [results, Try.results21, go_sem]) rfl ⟨rfl, rfl⟩
  · have hz' : (ksz a == 0) = false := by simpa using hz
    rw [hz'] at h
    have hb : (b == 1 || b == 2) = false := by simpa using h
    rw [hb] at ME
    clear h hz
    go_enter Try.func21, Try.ntmps21
    go_wp2_with (first
      | (go_at_call 33; refine (SZ _).mono ?_; rintro e x ⟨rfl, hx⟩; rw [hx])
      | (go_at_call 39; refine (ME _).mono ?_; rintro e x ⟨rfl, hx⟩; rw [hx]))
    exact bodyPost_ret (v := .tuple #[.pointer none, .int .i64 1]) (by simp [results, Try.results21, go_sem]) rfl ⟨rfl, rfl⟩
/-- refused: the key's length -/
theorem new_key (a b : Int) (ha : (ksz a == 0) = false) (hb : (b == 1 || b == 2) = true) (key : ByteArray) (hk : ((key.size : Int) != ksz a) = true) (w : World) : Calls Try.prog 21 #[.int .i64 a, .int .i64 b, .string key] w fun e w' => e = .returned (.tuple #[.pointer none, .int .i64 30]) ∧ w' = w := by
  have ME := fun y => method_any b y
  have SZ := fun y => size_any a y
  rw [hb] at ME
  go_enter Try.func21, Try.ntmps21
  go_wp2_with (first
    | (go_at_call 33; refine (SZ _).mono ?_; rintro e x ⟨rfl, hx⟩; rw [hx])
    | (go_at_call 39; refine (ME _).mono ?_; rintro e x ⟨rfl, hx⟩; rw [hx]))
  exact bodyPost_ret (v := .tuple #[.pointer none, .int .i64 30]) (by simp [results, Try.results21, go_sem]) rfl ⟨rfl, rfl⟩
theorem ext_take (s : ByteArray) (n : Nat) : (s.extract 0 n).data.toList = s.data.toList.take n := by simp
theorem ext_drop (s : ByteArray) (n : Nat) : (s.extract n s.size).data.toList = s.data.toList.drop n := by
  simp only [ByteArray.data_extract, Array.toList_extract, List.extract_eq_take_drop]
  rw [List.take_of_length_le (by simp)]
theorem key_set {w : World} {g K b o : Nat} {l : List UInt8} {v : Value} (h : Key w g K l) (hb : b ≠ g) : Key (w.setCell ⟨b, o, none⟩ v) g K l := (Below.heap_setCell w ⟨b, o, none⟩ v g hb.symm).trans h
theorem key8 (key : ByteArray) (h : 8 ≤ key.size) : Hid (kindN (key.extract 0 8).size = 1) := (by rw [ByteArray.size_extract, show min 8 key.size - 0 = 8 by omega]; rfl : kindN (key.extract 0 8).size = 1)
theorem key16 (key : ByteArray) (h : key.size = 16) : Hid (kindN (key.extract 8 key.size).size = 1) := (by rw [ByteArray.size_extract, h]; rfl : kindN (key.extract 8 key.size).size = 1)
set_option maxRecDepth 100000 in
set_option maxHeartbeats 1600000 in
theorem new_one (m : Nat) (hm : m = 1 ∨ m = 2) (key : ByteArray) (hk : key.size = 8) (w : World) : Calls Try.prog 21 #[.int .i64 1, .int .i64 (m : Int), .string key] w fun e w' => ∃ g, e = .returned (.tuple #[.pointer (some ⟨g, 0, none⟩), .int .i64 0]) ∧ w.heap.size ≤ g ∧ Sealed w' g 1 m key.data.toList ∧ Below w.heap.size w w' := by
  have ME := fun y => method_any (m : Int) y
  rw [show (((m : Int) == 1) || ((m : Int) == 2)) = true by rcases hm with rfl | rfl <;> rfl] at ME
  have SZ := fun y => size_any 1 y
  rw [show ksz 1 = 8 from rfl] at SZ
  have q : ((key.size : Int) != 8) = false := by simp only [bne_eq_false_iff_eq]; omega
  have q8 : (8 : Int) ≤ (key.size : Int) := by omega
  have NE := new_good (key.extract 0 8) 1 (key8 key (by omega)) (by decide) (by decide)
  rw [ext_take] at NE
  clear hk hm
  go_enter Try.func21, Try.ntmps21
  go_wp2_with (first
    | (go_at_call 33; refine (SZ _).mono ?_; rintro e x ⟨rfl, hx⟩; rw [hx])
    | (go_at_call 39; refine (ME _).mono ?_; rintro e x ⟨rfl, hx⟩; rw [hx])
    | (go_at_call 12; refine (NE _).mono ?_; rintro e y ⟨g, rfl, hg, hy, hby⟩; have hr := Cb.kept hby (h1_0 w _); obtain ⟨c0, c1, c2, c3, f2, f3⟩ := four hr))
  refine bodyPost_ret (v := .tuple #[.pointer (some ⟨w.heap.size, 0, none⟩), .int .i64 0]) (by simp [results, Try.results21, go_sem]) rfl ⟨_, rfl, Nat.le_refl _, ⟨g, _, setCell_heap hr 2 _, key_set hy (by simp at hg; omega), fun e => by cases e⟩, below_setCell (keepB (below_one w _) hby) (Nat.le_refl _) _ _⟩
set_option maxRecDepth 100000 in
set_option maxHeartbeats 1600000 in
theorem new_three (m : Nat) (hm : m = 1 ∨ m = 2) (key : ByteArray) (hk : key.size = 16) (w : World) : Calls Try.prog 21 #[.int .i64 3, .int .i64 (m : Int), .string key] w fun e w' => ∃ g, e = .returned (.tuple #[.pointer (some ⟨g, 0, none⟩), .int .i64 0]) ∧ w.heap.size ≤ g ∧ Sealed w' g 3 m key.data.toList ∧ Below w.heap.size w w' := by
  have ME := fun y => method_any (m : Int) y
  rw [show (((m : Int) == 1) || ((m : Int) == 2)) = true by rcases hm with rfl | rfl <;> rfl] at ME
  have SZ := fun y => size_any 3 y
  rw [show ksz 3 = 16 from rfl] at SZ
  have q : ((key.size : Int) != 16) = false := by simp only [bne_eq_false_iff_eq]; omega
  have q8 : (8 : Int) ≤ (key.size : Int) := by omega
  have NE := new_good (key.extract 0 8) 1 (key8 key (by omega)) (by decide) (by decide)
  have NF := new_good (key.extract 8 key.size) 1 (key16 key hk) (by decide) (by decide)
  rw [ext_take] at NE
  rw [ext_drop] at NF
  clear hk hm
  obtain ⟨k1, hk1⟩ : ∃ k1, k1 = key.extract 0 8 := ⟨_, rfl⟩
  go_enter Try.func21, Try.ntmps21
  go_wp2_with (first
    | (go_at_call 33; refine (SZ _).mono ?_; rintro e x ⟨rfl, hx⟩; rw [hx])
    | (go_at_call 39; refine (ME _).mono ?_; rintro e x ⟨rfl, hx⟩; rw [hx])
    | (go_at_call_of 12 (Value.string (key.extract 0 8)); refine (NE _).mono ?_; rintro e y ⟨g, rfl, hg, hy, hby⟩; have hr := Cb.kept hby (h1_0 w _); obtain ⟨c0, c1, c2, c3, f2, f3⟩ := four hr; have hr2 := setCell_heap hr 2 (.pointer (some ⟨g, 0, none⟩)); have hy2 := key_set (b := w.heap.size) (o := 2) (v := .pointer (some ⟨g, 0, none⟩)) hy (by simp at hg; omega))
    | (go_at_call 12; refine (NF _).mono ?_; rintro e z ⟨g2, rfl, hg2, hz, hbz⟩; have hr3 := Cb.kept hbz hr2; obtain ⟨d0, d1, d2, d3, k2, k3⟩ := four hr3))
  have hb1 : Below w.heap.size w (y.setCell ⟨w.heap.size, 2, none⟩ (.pointer (some ⟨g, 0, none⟩))) := below_setCell (keepB (below_one w _) hby) (Nat.le_refl _) _ _
  have hb2 := keepB hb1 hbz
  have hgs : w.heap.size ≠ g := by simp at hg; omega
  have hgs2 : w.heap.size ≠ g2 := by have := hb1.size; have := (Array.getElem?_eq_some_iff.1 hr2).1; omega
  refine bodyPost_ret (v := .tuple #[.pointer (some ⟨w.heap.size, 0, none⟩), .int .i64 0]) (by simp [results, Try.results21, go_sem]) rfl ⟨_, rfl, Nat.le_refl _, ⟨g, _, setCell_heap hr3 3 _, key_set (key_kept hbz hy2) hgs, fun e => ⟨g2, rfl, key_set hz hgs2⟩⟩, below_setCell hb2 (Nat.le_refl _) _ _⟩
theorem new_any (alg m : Nat) (ha : alg = 1 ∨ alg = 3) (hm : m = 1 ∨ m = 2) (key : ByteArray) (hk : key.size = 4 + 4 * alg) (w : World) : Calls Try.prog 21 #[.int .i64 (alg : Int), .int .i64 (m : Int), .string key] w fun e w' => ∃ g, e = .returned (.tuple #[.pointer (some ⟨g, 0, none⟩), .int .i64 0]) ∧ w.heap.size ≤ g ∧ Sealed w' g alg m key.data.toList ∧ Below w.heap.size w w' := by
  rcases ha with rfl | rfl
  · exact new_one m hm key (by omega) w
  · exact new_three m hm key (by omega) w
end Go.Proofs.Ytpifebapodfeaab.Se
