/- Chain, the document's; chained. -/
import Derived.Test.YtpifebapodfeaaaTu
namespace Go.Proofs.Ytpifebapodfeaaa.Rc
set_option linter.unusedVariables false
open Go.RowKit Pla Cb Wd Nw Bk Eb Et Cc Ch Pm Ro Rl Ru Tu
open Bl (len_size mk_eq)
open Ea (dl szL ext_list cat_mk bits_xorL lastB rowB last_bits last_size row_succ row_size mixB)
open Xo (xorL xorL_len xor_ref)
theorem xor_two (x y : List Bool) (hx : x.length = 64) (hy : y.length = 64) (a b : ByteArray) (ha : a.size = 8) (hb : b.size = 8) (ea : bitsS a.data.toList = x) (eb : bitsS b.data.toList = y) (u : World) :
    Calls Try.prog 37 #[.string a, .string b] u (RetE ⟨(byW (xr x y)).toArray⟩ 0 u) := by
  have h := xor_ref a b 8 ha hb (by decide) u
  have l1 : a.data.toList.length = 8 := by rw [len_size, ha]
  have l2 : b.data.toList.length = 8 := by rw [len_size, hb]
  have e : xorL a.data.toList b.data.toList = byW (xr x y) := by
    refine bitsS_inj _ _ (by rw [xorL_len _ _ (l1.trans l2.symm), l1, byW_len]) ?_
    rw [bits_xorL _ _ (l1.trans l2.symm), ea, eb, bits_byW _ (xr_len _ _ 64 hx hy)]
  rw [e] at h
  exact h
theorem piece_bits (s : ByteArray) (j : Nat) (h : 8 * j + 8 ≤ s.size) : bitsS (s.extract (8 * j) (8 * j + 8)).data.toList = blk s.data.toList j ∧ (s.extract (8 * j) (8 * j + 8)).size = 8 := ⟨by rw [ext_list]; rfl, by rw [ByteArray.size_extract]; omega⟩
/-- the bytes of the block ahead -/
def prvB (f s : ByteArray) : Nat → ByteArray
  | 0 => f
  | j + 1 => s.extract (8 * j) (8 * j + 8)
theorem prvB_bits (f s : ByteArray) (hf : f.size = 8) (N : Nat) (hN : s.size = 8 * N) : ∀ j, j ≤ N → bitsS (prvB f s j).data.toList = prv (bitsS f.data.toList) s.data.toList j ∧ (prvB f s j).size = 8
  | 0, _ => ⟨rfl, hf⟩
  | j + 1, h => by
    have := piece_bits s j (by omega)
    exact ⟨this.1, this.2⟩
def unB (l : List UInt8) (f s : ByteArray) (j : Nat) : ByteArray := ⟨(outN (fun i => xr (dec l (blk s.data.toList i)) (prv (bitsS f.data.toList) s.data.toList i)) j).toArray⟩
theorem un_succ (l : List UInt8) (f s : ByteArray) (j : Nat) : unB l f s j ++ ⟨(byW (xr (dec l (blk s.data.toList j)) (prv (bitsS f.data.toList) s.data.toList j))).toArray⟩ = unB l f s (j + 1) := by rw [unB, cat_mk, unB, outN_succ]
theorem un_size (l : List UInt8) (f s : ByteArray) (j : Nat) : (unB l f s j).size = 8 * j := by rw [unB, szL, outN_len]
theorem chain_bad (k f s : ByteArray) (back : Bool) (q : (((f.size : Int) != 8) || ((s.size : Int) % 8 != 0)) = true) (hs : s.size ≤ 1099511627776) (w : World) :
    Calls Try.prog 24 #[.string k, .string f, .string s, .bool back] w fun e w' => e = .returned (.tuple #[.string ⟨#[]⟩, .int .i64 31]) ∧ w' = w := by
  cases q1 : ((f.size : Int) != 8)
  · rw [q1, Bool.false_or] at q
    go_enter Try.func24, Try.ntmps24
    go_wp2
    exact bodyPost_ret (v := .tuple #[.string ⟨#[]⟩, .int .i64 31]) (by simp [results, Try.results24, go_sem]) rfl ⟨rfl, rfl⟩
  · clear q
    go_enter Try.func24, Try.ntmps24
    go_wp2
    exact bodyPost_ret (v := .tuple #[.string ⟨#[]⟩, .int .i64 31]) (by simp [results, Try.results24, go_sem]) rfl ⟨rfl, rfl⟩
set_option maxRecDepth 100000 in
set_option maxHeartbeats 1600000 in
theorem chain_fore (k f s : ByteArray) (hk : k.size = 8 ∨ k.size = 16 ∨ k.size = 24) (hf : Hid (f.size = 8)) (N : Nat) (hN : Hid (s.size = 8 * N)) (hN2 : N ≤ 1000000) (w : World) :
    Calls Try.prog 24 #[.string k, .string f, .string s, .bool false] w (RetE (rowB k.data.toList f s N) 0 w) := by
  have q : ((s.size : Int) % 8 != 0) = false := by have := hN.out; simp only [bne_eq_false_iff_eq]; omega
  have qf : ((f.size : Int) != 8) = false := by have := hf.out; simp only [bne_eq_false_iff_eq]; omega
  have hkH : Hid (k.size = 8 ∨ k.size = 16 ∨ k.size = 24) := hk
  have hFl : (bitsS f.data.toList).length = 64 := by rw [bitsS_len, len_size, hf.out]
  clear hk
  go_enter Try.func24, Try.ntmps24
  go_wp2
  go_loopw [10, 11, 12] (fun v vl c wr => ∃ j : Nat, j ≤ N ∧ v = .string (rowB k.data.toList f s j) ∧ vl = .string (lastB k.data.toList f s j) ∧ c = .int .i64 (8 * (j : Int)) ∧ Below w.heap.size w wr) (fun _ _ c _ => 8 * N + 8 - (intOf c).toNat)
  case atStart => exact ⟨0, Nat.zero_le _, rfl, rfl, rfl, Below.refl _ _⟩
  case round =>
    obtain ⟨j, hj, rfl, rfl, rfl, hb⟩ := hrel
    have eN := hN.out
    by_cases hlt : j < N
    · have q0 : (0 : Int) ≤ 8 * (j : Int) := by omega
      have q1 : 8 * (j : Int) < (s.size : Int) := by omega
      have q2 : 8 * (j : Int) + 8 ≤ (s.size : Int) := by omega
      have q3 : (s.size : Int) ≤ 8000000 := by omega
      have pb := piece_bits s j (by omega)
      have hbl := blk_len' s j (by omega)
      have hal := ahd_len k.data.toList _ hFl s.data.toList j
      have X1 := fun u => xor_two _ _ hbl hal (s.extract (8 * j) (8 * j + 8)) (lastB k.data.toList f s j) pb.2 (last_size _ _ _ hf.out j) pb.1 (last_bits _ _ _ j) u
      have B1 := fun u => block_any k hkH.out _ (xr_len _ _ 64 hbl hal) false u
      have HN2 : Hid (rowB k.data.toList f s j ++ lastB k.data.toList f s (j + 1) = rowB k.data.toList f s (j + 1)) := row_succ _ _ _ _
      have c2 : ¬ 9223372036854775807 < (rowB k.data.toList f s j).size + (lastB k.data.toList f s (j + 1)).size := by rw [row_size, last_size _ _ _ hf.out]; omega
      have HLB : Hid ((⟨(byW (cph k.data.toList false (xr (blk s.data.toList j) (ahd k.data.toList (bitsS f.data.toList) s.data.toList j)))).toArray⟩ : ByteArray) = lastB k.data.toList f s (j + 1)) := rfl
      rw [HLB.out] at B1
      have hH : Hid (8 * (j + 1) ≤ 8 * N) := (by omega : 8 * (j + 1) ≤ 8 * N)
      clear eN hkH hbl hal pb HLB
      generalize (byW (xr (blk s.data.toList j) (ahd k.data.toList (bitsS f.data.toList) s.data.toList j))).toArray = Z at *
      generalize rowB k.data.toList f s j = RJ at *
      generalize lastB k.data.toList f s j = LJ at *
      generalize hLB : lastB k.data.toList f s (j + 1) = LB at *
      have HLB : Hid (lastB k.data.toList f s (j + 1) = LB) := hLB
      clear hLB
      go_wp2_with (first
        | (go_at_call 37; refine (X1 _).mono ?_; rintro e x1 ⟨rfl, h1⟩)
        | (go_at_call 36; refine (B1 _).mono ?_; rintro e x2 ⟨rfl, h2⟩))
      exact ⟨⟨j + 1, hlt, by rw [HN2.out], by rw [HLB.out], by congr 1, keepB (keepB hb h1) h2⟩, by have := hH.out; simp only [intOf]; omega⟩
    · obtain rfl : j = N := by omega
      have q1 : ¬ 8 * (j : Int) < (s.size : Int) := by omega
      clear eN hkH
      go_wp2
      exact bodyPost_ret (v := .tuple #[.string (rowB k.data.toList f s j), .int .i64 0]) (by simp [results, Try.results24, go_sem]) rfl ⟨rfl, hb⟩
set_option maxRecDepth 100000 in
set_option maxHeartbeats 1600000 in
theorem chain_back (k f s : ByteArray) (hk : k.size = 8 ∨ k.size = 16 ∨ k.size = 24) (hf : Hid (f.size = 8)) (N : Nat) (hN : Hid (s.size = 8 * N)) (hN2 : N ≤ 1000000) (w : World) :
    Calls Try.prog 24 #[.string k, .string f, .string s, .bool true] w (RetE (unB k.data.toList f s N) 0 w) := by
  have q : ((s.size : Int) % 8 != 0) = false := by have := hN.out; simp only [bne_eq_false_iff_eq]; omega
  have qf : ((f.size : Int) != 8) = false := by have := hf.out; simp only [bne_eq_false_iff_eq]; omega
  have hkH : Hid (k.size = 8 ∨ k.size = 16 ∨ k.size = 24) := hk
  have hFl : (bitsS f.data.toList).length = 64 := by rw [bitsS_len, len_size, hf.out]
  clear hk
  go_enter Try.func24, Try.ntmps24
  go_wp2
  go_loopw [10, 11, 12] (fun v vl c wr => ∃ j : Nat, j ≤ N ∧ v = .string (unB k.data.toList f s j) ∧ vl = .string (prvB f s j) ∧ c = .int .i64 (8 * (j : Int)) ∧ Below w.heap.size w wr) (fun _ _ c _ => 8 * N + 8 - (intOf c).toNat)
  case atStart => exact ⟨0, Nat.zero_le _, rfl, rfl, rfl, Below.refl _ _⟩
  case round =>
    obtain ⟨j, hj, rfl, rfl, rfl, hb⟩ := hrel
    have eN := hN.out
    by_cases hlt : j < N
    · have q0 : (0 : Int) ≤ 8 * (j : Int) := by omega
      have q1 : 8 * (j : Int) < (s.size : Int) := by omega
      have q2 : 8 * (j : Int) + 8 ≤ (s.size : Int) := by omega
      have q3 : (s.size : Int) ≤ 8000000 := by omega
      have pv := prvB_bits f s hf.out N eN j hj
      have hal := prv_lenS (bitsS f.data.toList) hFl s N eN j hlt
      have B1 := fun u => block_piece k hkH.out s j (by omega) true u
      have X1 := fun u => xor_two _ _ (cph_len k.data.toList true (blk s.data.toList j)) hal ⟨(byW (cph k.data.toList true (blk s.data.toList j))).toArray⟩ (prvB f s j) (byW_size _) pv.2 (by rw [dl, bits_byW _ (cph_len _ _ _)]) pv.1 u
      have HN2 : Hid (unB k.data.toList f s j ++ ⟨(byW (xr (cph k.data.toList true (blk s.data.toList j)) (prv (bitsS f.data.toList) s.data.toList j))).toArray⟩ = unB k.data.toList f s (j + 1)) := un_succ _ _ _ _
      have hZ : (byW (xr (cph k.data.toList true (blk s.data.toList j)) (prv (bitsS f.data.toList) s.data.toList j))).toArray.size = 8 := by simp [byW_len]
      have c2 : ¬ 9223372036854775807 < (unB k.data.toList f s j).size + (byW (xr (cph k.data.toList true (blk s.data.toList j)) (prv (bitsS f.data.toList) s.data.toList j))).toArray.size := by rw [un_size, hZ]; omega
      have hH : Hid (8 * (j + 1) ≤ 8 * N) := (by omega : 8 * (j + 1) ≤ 8 * N)
      clear eN hkH hal pv hZ
      generalize (byW (xr (cph k.data.toList true (blk s.data.toList j)) (prv (bitsS f.data.toList) s.data.toList j))).toArray = Z at *
      generalize (byW (cph k.data.toList true (blk s.data.toList j))).toArray = Y at *
      generalize unB k.data.toList f s j = RJ at *
      generalize prvB f s j = LJ at *
      go_wp2_with (first
        | (go_at_call 36; refine (B1 _).mono ?_; rintro e x1 ⟨rfl, h1⟩)
        | (go_at_call 37; refine (X1 _).mono ?_; rintro e x2 ⟨rfl, h2⟩))
      exact ⟨⟨j + 1, hlt, by rw [HN2.out], rfl, by congr 1, keepB (keepB hb h1) h2⟩, by have := hH.out; simp only [intOf]; omega⟩
    · obtain rfl : j = N := by omega
      have q1 : ¬ 8 * (j : Int) < (s.size : Int) := by omega
      clear eN hkH
      go_wp2
      exact bodyPost_ret (v := .tuple #[.string (unB k.data.toList f s j), .int .i64 0]) (by simp [results, Try.results24, go_sem]) rfl ⟨rfl, hb⟩
end Go.Proofs.Ytpifebapodfeaaa.Rc
