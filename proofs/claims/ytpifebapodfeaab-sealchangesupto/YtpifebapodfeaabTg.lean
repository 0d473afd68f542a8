/- tag; Tag. -/
import Derived.Test.YtpifebapodfeaabSe
import Derived.Test.YtpifebapodfeaabQl
import Derived.Test.YtpifebapodfeaabShelf
namespace Go.Proofs.Ytpifebapodfeaab.Tg
set_option linter.unusedVariables false
open Go.RowKit Pla Cb Sm Wd Nw Bk Eb Et Cc Ch Pm Fp Sp Pe Se
open Ck (z64)
theorem clone_any (s : ByteArray) (w : World) (hlim : s.size ≤ 281474976710656) :
    Calls Try.prog 42 #[.string s] w fun e w' => e = .returned (.string s) ∧ Below w.heap.size w w' := by
  have CL := fun y => Try.stringslite_Clone s y hlim
  go_enter Try.func42, Try.ntmps42
  go_wp2_with (go_at_call 65; refine (CL _).mono ?_; rintro e x ⟨rfl, hx⟩)
  go_ret
  exact ⟨rfl, hx⟩
def noughts : ByteArray := ⟨#[0, 0, 0, 0, 0, 0, 0, 0]⟩
theorem noughts_bits : bitsS noughts.data.toList = z64 := by kernel_rfl
theorem take8_len (key : List UInt8) (h : 8 ≤ key.length) : kindN (key.take 8).length = 1 := by rw [List.length_take, show min 8 key.length = 8 by omega]; rfl
/-- the chain's last eight bytes -/
theorem chain_ext (k p : List UInt8) (N : Nat) (h : p.length = 8 * (N + 1)) : (⟨(chainL k z64 p).toArray⟩ : ByteArray).extract (8 * N) (8 * N + 8) = ⟨(byW (lastC k p)).toArray⟩ := by
  have hl := chain_len k z64 p (N + 1) h
  apply ByteArray.ext
  apply Array.ext'
  rw [ByteArray.data_extract, Array.toList_extract, List.extract_eq_take_drop]
  show List.take (8 * N + 8 - 8 * N) (List.drop (8 * N) (chainL k z64 p)) = byW (lastC k p)
  rw [chain_last k p N h, List.take_of_length_le (by rw [byW_len]; omega)]
set_option maxRecDepth 100000 in
set_option maxHeartbeats 1600000 in
theorem tag_one (g m : Nat) (hm : m = 1 ∨ m = 2) (key : List UInt8) (hl : 8 ≤ key.length) (s : ByteArray) (hs : s.size ≤ 1000000000) (w : World) (h : Sealed w g 1 m key) :
    Calls Try.prog 23 #[.pointer (some ⟨g, 0, none⟩), .string s] w fun e w' => e = .returned (.string ⟨(byW (tagC 1 key (fillL m s.data.toList))).toArray⟩) ∧ Below w.heap.size w w' := by
  obtain ⟨g1, p2, h1, h2, h3⟩ := h
  obtain ⟨c0, c1, c2, c3, f2, f3⟩ := four h1
  have gl : g < w.heap.size := (Array.getElem?_eq_some_iff.1 h1).1
  have FI := fun y => filled_any m hm s (by omega) y
  obtain ⟨N, hN⟩ : ∃ N, nbM m s.size = N + 1 := ⟨nbM m s.size - 1, by have := nbM_pos m s.size; omega⟩
  have hN2 : 8 * (N + 1) ≤ 1000000009 := by have := nbM_le m s.size; omega
  have hz : (fillB m s).size = 8 * (N + 1) := by rw [fillB_size, hN]
  have CH := fun y hy => Cha_good noughts (fillB m s) g1 1 (N + 1) (key.take 8) y (rfl : noughts.size = 8) hz (by rw [hz]; omega) (⟨take8_len key hl, by decide⟩ : kindN (key.take 8).length = 1 ∧ 1 ≤ 1) hy
  rw [noughts_bits, fillB_list] at CH
  have hp : (fillL m s.data.toList).length = 8 * (N + 1) := by rw [fillL_len, len_size, hN]
  have EX := chain_ext (key.take 8) (fillL m s.data.toList) N hp
  have sz : (⟨(chainL (key.take 8) z64 (fillL m s.data.toList)).toArray⟩ : ByteArray).size = 8 * N + 8 := by
    show (chainL _ _ _).toArray.size = _
    rw [List.size_toArray, chain_len _ _ _ (N + 1) hp]; omega
  rw [tagC, if_neg (by decide)]
  generalize (⟨(chainL (key.take 8) z64 (fillL m s.data.toList)).toArray⟩ : ByteArray) = C at *
  have CL := fun y => clone_any ⟨(byW (lastC (key.take 8) (fillL m s.data.toList))).toArray⟩ y (by show (byW _).toArray.size ≤ _; rw [List.size_toArray, byW_len]; omega)
  generalize (⟨(byW (lastC (key.take 8) (fillL m s.data.toList))).toArray⟩ : ByteArray) = L at *
  generalize fillB m s = F at *
  have hX : C.extract (C.size - 8) C.size = L := by rw [sz, show 8 * N + 8 - 8 = 8 * N by omega]; exact EX
  have q1 : (8 : Int) ≤ (C.size : Int) := by omega
  have q2 : (C.size : Int) ≤ 1000000010 := by omega
  clear EX sz hp hz hN hm hN2
  go_enter Try.func23, Try.ntmps23
  go_wp2_with fail
  refine Ql.region_cl (by kernel_rfl) (by kernel_rfl) ?_
  repeat (refine wpQuiet_step (fun K hK => ?_); first
    | (refine Ql.q_cell (by rfl) 38 _ rfl g 2 rfl _ c2 gl Try.isAgg38 (hK _ ?_); clear hK K)
    | (refine Ql.q_cell (by rfl) 3 _ rfl g 1 rfl _ c1 gl Try.isAgg3 (hK _ ?_); clear hK K)
    | (go_simp; apply Exists.intro; refine ⟨fun z hz => ?_, hK _ ?_⟩; (first | (go_at_call 41; exact Ql.cl_of hz (FI z)) | (go_at_call 40; exact Ql.cl_of hz (CH z (key_kept hz h2)))); clear hK K)
    | (go_simp; refine hK _ ?_; clear hK K)
    | (go_simp; refine ⟨_, fun _ _ => rfl, hK _ ?_⟩; clear hK K)
    | (go_simp; refine ⟨_, fun _ _ => ⟨rfl, rfl⟩, hK _ ?_⟩; clear hK K))
  refine wpQuiet_nil ?_
  intro y hy
  have hyb : Below w.heap.size w y := hy
  obtain ⟨d0, d1, d2, d3, k2, k3⟩ := four (Cb.kept hyb h1)
  go_wp2_with (go_at_call 42; refine (CL _).mono ?_; rintro e z ⟨rfl, hz⟩)
  go_ret
  exact ⟨rfl, keepB hyb hz⟩
set_option maxRecDepth 100000 in
set_option maxHeartbeats 1600000 in
theorem tag_three (g m : Nat) (hm : m = 1 ∨ m = 2) (key : List UInt8) (hl : key.length = 16) (s : ByteArray) (hs : s.size ≤ 1000000000) (w : World) (h : Sealed w g 3 m key) :
    Calls Try.prog 23 #[.pointer (some ⟨g, 0, none⟩), .string s] w fun e w' => e = .returned (.string ⟨(byW (tagC 3 key (fillL m s.data.toList))).toArray⟩) ∧ Below w.heap.size w w' := by
  obtain ⟨g1, p2, h1, h2, h3⟩ := h
  obtain ⟨g2, rfl, h4⟩ := h3 rfl
  obtain ⟨c0, c1, c2, c3, f2, f3⟩ := four h1
  have gl : g < w.heap.size := (Array.getElem?_eq_some_iff.1 h1).1
  have FI := fun y => filled_any m hm s (by omega) y
  obtain ⟨N, hN⟩ : ∃ N, nbM m s.size = N + 1 := ⟨nbM m s.size - 1, by have := nbM_pos m s.size; omega⟩
  have hN2 : 8 * (N + 1) ≤ 1000000009 := by have := nbM_le m s.size; omega
  have hz : (fillB m s).size = 8 * (N + 1) := by rw [fillB_size, hN]
  have CH := fun y hy => Cha_good noughts (fillB m s) g1 1 (N + 1) (key.take 8) y (rfl : noughts.size = 8) hz (by rw [hz]; omega) (⟨take8_len key (by omega), by decide⟩ : kindN (key.take 8).length = 1 ∧ 1 ≤ 1) hy
  rw [noughts_bits, fillB_list] at CH
  have hp : (fillL m s.data.toList).length = 8 * (N + 1) := by rw [fillL_len, len_size, hN]
  have EX := chain_ext (key.take 8) (fillL m s.data.toList) N hp
  have sz : (⟨(chainL (key.take 8) z64 (fillL m s.data.toList)).toArray⟩ : ByteArray).size = 8 * N + 8 := by
    show (chainL _ _ _).toArray.size = _
    rw [List.size_toArray, chain_len _ _ _ (N + 1) hp]; omega
  rw [tagC, if_pos rfl]
  generalize (⟨(chainL (key.take 8) z64 (fillL m s.data.toList)).toArray⟩ : ByteArray) = C at *
  have hlc := lastC_len (key.take 8) (fillL m s.data.toList)
  have k8 : kindN (key.drop 8).length = 1 := by rw [List.length_drop, hl]; rfl
  generalize lastC (key.take 8) (fillL m s.data.toList) = lc at *
  have DE := fun y hy => Dec_good ⟨(byW lc).toArray⟩ g2 1 1 (key.drop 8) y (by show (byW lc).toArray.size = 8 * 1; rw [List.size_toArray, byW_len]) (by show (byW lc).toArray.size ≤ _; rw [List.size_toArray, byW_len]; omega) (⟨k8, by decide⟩ : kindN (key.drop 8).length = 1 ∧ 1 ≤ 1) hy
  rw [show (ByteArray.mk (byW lc).toArray).data.toList = byW lc by simp, map_one _ _ hlc] at DE
  have hld := dec_len (key.drop 8) lc
  generalize dec (key.drop 8) lc = ld at *
  have EN := fun y hy => Enc_good ⟨(byW ld).toArray⟩ g1 1 1 (key.take 8) y (by show (byW ld).toArray.size = 8 * 1; rw [List.size_toArray, byW_len]) (by show (byW ld).toArray.size ≤ _; rw [List.size_toArray, byW_len]; omega) (⟨take8_len key (by omega), by decide⟩ : kindN (key.take 8).length = 1 ∧ 1 ≤ 1) hy
  rw [show (ByteArray.mk (byW ld).toArray).data.toList = byW ld by simp, map_one _ _ hld] at EN
  generalize enc (key.take 8) ld = le at *
  have CL := fun y => clone_any ⟨(byW le).toArray⟩ y (by show (byW _).toArray.size ≤ _; rw [List.size_toArray, byW_len]; omega)
  generalize (⟨(byW le).toArray⟩ : ByteArray) = T at *
  generalize (⟨(byW ld).toArray⟩ : ByteArray) = M at *
  generalize (⟨(byW lc).toArray⟩ : ByteArray) = L at *
  generalize fillB m s = F at *
  have hX : C.extract (C.size - 8) C.size = L := by rw [sz, show 8 * N + 8 - 8 = 8 * N by omega]; exact EX
  have q1 : (8 : Int) ≤ (C.size : Int) := by omega
  have q2 : (C.size : Int) ≤ 1000000010 := by omega
  clear EX sz hp hz hN hm hN2
  go_enter Try.func23, Try.ntmps23
  go_wp2_with fail
  refine Ql.region_cl (by kernel_rfl) (by kernel_rfl) ?_
  repeat (refine wpQuiet_step (fun K hK => ?_); first
    | (refine Ql.q_cell (by rfl) 38 _ rfl g 2 rfl _ c2 gl Try.isAgg38 (hK _ ?_); clear hK K)
    | (refine Ql.q_cell (by rfl) 3 _ rfl g 1 rfl _ c1 gl Try.isAgg3 (hK _ ?_); clear hK K)
    | (go_simp; apply Exists.intro; refine ⟨fun z hz => ?_, hK _ ?_⟩; (first | (go_at_call 41; exact Ql.cl_of hz (FI z)) | (go_at_call 40; exact Ql.cl_of hz (CH z (key_kept hz h2)))); clear hK K)
    | (go_simp; refine hK _ ?_; clear hK K)
    | (go_simp; refine ⟨_, fun _ _ => rfl, hK _ ?_⟩; clear hK K)
    | (go_simp; refine ⟨_, fun _ _ => ⟨rfl, rfl⟩, hK _ ?_⟩; clear hK K))
  refine wpQuiet_nil ?_
  intro y hy
  have hyb : Below w.heap.size w y := hy
  obtain ⟨d0, d1, d2, d3, k2, k3⟩ := four (Cb.kept hyb h1)
  have ky1 := key_kept hyb h2
  have ky2 := key_kept hyb h4
  go_wp2_with (first
    | (go_at_call 34; refine (DE _ ky2).mono ?_; rintro e z ⟨rfl, hz⟩; have kz1 := key_kept hz ky1; obtain ⟨e0, e1, e2, e3, m2, m3⟩ := four (Cb.kept (keepB hyb hz) h1))
    | (go_at_call 13; refine (EN _ kz1).mono ?_; rintro e z1 ⟨rfl, hz1⟩)
    | (go_at_call 42; refine (CL _).mono ?_; rintro e z2 ⟨rfl, hz2⟩))
  go_ret
  exact ⟨rfl, keepB (keepB (keepB hyb hz) hz1) hz2⟩
theorem tag_any (alg g m : Nat) (ha : alg = 1 ∨ alg = 3) (hm : m = 1 ∨ m = 2) (key : ByteArray) (hk : key.size = 4 + 4 * alg) (s : ByteArray) (hs : s.size ≤ 1000000000) (w : World) (h : Sealed w g alg m key.data.toList) :
    Calls Try.prog 23 #[.pointer (some ⟨g, 0, none⟩), .string s] w fun e w' => e = .returned (.string (tagB alg m key s)) ∧ Below w.heap.size w w' := by
  rcases ha with rfl | rfl
  · exact tag_one g m hm key.data.toList (by rw [len_size]; omega) s hs w h
  · exact tag_three g m hm key.data.toList (by rw [len_size]; omega) s hs w h
set_option maxRecDepth 100000 in
set_option maxHeartbeats 1600000 in
theorem Tag_good (alg m : Nat) (ha : alg = 1 ∨ alg = 3) (hm : m = 1 ∨ m = 2) (key : ByteArray) (hk : key.size = 4 + 4 * alg) (s : ByteArray) (hs : s.size ≤ 1000000000) (w : World) :
    Calls Try.prog 10 #[.int .i64 (alg : Int), .int .i64 (m : Int), .string key, .string s] w fun e w' => e = .returned (.tuple #[.string (tagB alg m key s), .int .i64 0]) ∧ Below w.heap.size w w' := by
  have NE := fun y => new_any alg m ha hm key hk y
  have TA := fun g y hy => tag_any alg g m ha hm key hk s hs y hy
  generalize tagB alg m key s = T at *
  clear ha hm hk hs
  go_enter Try.func10, Try.ntmps10
  go_wp2_with (first
    | (go_at_call 21; refine (NE _).mono ?_; rintro e x ⟨g, rfl, hg, hx, hbx⟩)
    | (go_at_call 23; refine (TA g _ hx).mono ?_; rintro e z ⟨rfl, hz⟩))
  exact bodyPost_ret (v := .tuple #[.string T, .int .i64 0]) (by simp [results, Try.results10, go_sem]) rfl ⟨rfl, keepB hbx hz⟩
theorem Tag_arg (a b : Int) (h : ((ksz a == 0) || !(b == 1 || b == 2)) = true) (key s : ByteArray) (w : World) :
    Calls Try.prog 10 #[.int .i64 a, .int .i64 b, .string key, .string s] w fun e w' => e = .returned (.tuple #[.string ⟨#[]⟩, .int .i64 1]) ∧ w' = w := by
  have NE := fun y => new_arg a b h key y
  clear h
  go_enter Try.func10, Try.ntmps10
  go_wp2_with (go_at_call 21; refine (NE _).mono ?_; rintro e x ⟨rfl, hx⟩; rw [hx])
  exact bodyPost_ret (v := .tuple #[.string ⟨#[]⟩, .int .i64 1]) (by simp [results, Try.results10, go_sem]) rfl ⟨rfl, rfl⟩
theorem Tag_key (a b : Int) (ha : (ksz a == 0) = false) (hb : (b == 1 || b == 2) = true) (key s : ByteArray) (hk : ((key.size : Int) != ksz a) = true) (w : World) :
    Calls Try.prog 10 #[.int .i64 a, .int .i64 b, .string key, .string s] w fun e w' => e = .returned (.tuple #[.string ⟨#[]⟩, .int .i64 30]) ∧ w' = w := by
  have NE := fun y => new_key a b ha hb key hk y
  clear ha hb hk
  go_enter Try.func10, Try.ntmps10
  go_wp2_with (go_at_call 21; refine (NE _).mono ?_; rintro e x ⟨rfl, hx⟩; rw [hx])
  exact bodyPost_ret (v := .tuple #[.string ⟨#[]⟩, .int .i64 30]) (by simp [results, Try.results10, go_sem]) rfl ⟨rfl, rfl⟩
end Go.Proofs.Ytpifebapodfeaab.Tg
