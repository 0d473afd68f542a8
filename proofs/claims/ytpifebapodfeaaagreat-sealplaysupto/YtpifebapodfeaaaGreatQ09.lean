import Derived.Test.YtpifebapodfeaaaGreatQ08
import Derived.Test.YtpifebapodfeaaaGreatQ02
import Derived.Test.YtpifebapodfeaaaGreatQ01
import Derived.Lib.SlicesS
import Derived.Test.YtpifebapodfeaaaGreatProg
import Derived.Conc.MuLone
import Derived.KernelRfl
import Derived.Defers
/- tag; Tag. -/
namespace Go.Proofs.YtpifebapodfeaaaGreat.Tg
set_option linter.unusedVariables false
open Go.RowKit Pla Cb Sm Wd Nw Bk Eb Et Cc Ch Pm Fp Sp Pe Se
open Ck (z64)
theorem clone_any (s : ByteArray) (w : World) (hlim : s.size ≤ 281474976710656) :
    Calls Tryz.prog 40 #[.string s] w fun e w' => e = .returned (.string s) ∧ Below w.heap.size w w' := by
  have CL := fun y => Tryz.stringslite_Clone s y hlim
  go_enter Tryz.func40, Tryz.ntmps40
  go_wp2_with (go_at_call 64; refine (CL _).mono ?_; rintro e x ⟨rfl, hx⟩)
  go_ret
  exact ⟨rfl, hx⟩
def noughts : ByteArray := ⟨#[0, 0, 0, 0, 0, 0, 0, 0]⟩
theorem noughts_bits : bitsS noughts.data.toList = z64 := by kernel_rfl
theorem take8_len (key : List UInt8) (h : 8 ≤ key.length) : kindN (key.take 8).length = 1 := by rw [List.length_take, show min 8 key.length = 8 by omega]; rfl
/-- the chain's last eight bytes -/
theorem chain_ext (k p : List UInt8) (N : Nat) (h : p.length = 8 * (N + 1)) : (⟨(chainL k z64 p).toArray⟩ : ByteArray).extract (8 * N) (8 * N + 8) = ⟨(byW (lastC k p)).toArray⟩ := by
  have hl := chain_len k z64 p (N + 1) h
  apply ByteArray.ext
  apply Array.ext'
  rw [ByteArray.data_extract, Array.toList_extract, List.extract_eq_take_drop]
  show List.take (8 * N + 8 - 8 * N) (List.drop (8 * N) (chainL k z64 p)) = byW (lastC k p)
  rw [chain_last k p N h, List.take_of_length_le (by rw [byW_len]; omega)]
set_option maxRecDepth 100000 in
set_option maxHeartbeats 1600000 in
theorem tag_one (g m : Nat) (hm : m = 1 ∨ m = 2) (key : List UInt8) (hl : 8 ≤ key.length) (s : ByteArray) (hs : s.size ≤ 1000000000) (w : World) (h : Sealed w g 1 m key) :
    Calls Tryz.prog 23 #[.pointer (some ⟨g, 0, none⟩), .string s] w fun e w' => e = .returned (.string ⟨(byW (tagC 1 key (fillL m s.data.toList))).toArray⟩) ∧ Below w.heap.size w w' := by
  obtain ⟨g1, p2, h1, h2, h3⟩ := h
  obtain ⟨c0, c1, c2, c3, f2, f3⟩ := four h1
  have gl : g < w.heap.size := (Array.getElem?_eq_some_iff.1 h1).1
  have FI := fun y => filled_any m hm s (by omega) y
  obtain ⟨N, hN⟩ : ∃ N, nbM m s.size = N + 1 := ⟨nbM m s.size - 1, by have := nbM_pos m s.size; omega⟩
  have hN2 : 8 * (N + 1) ≤ 1000000009 := by have := nbM_le m s.size; omega
  have hz : (fillB m s).size = 8 * (N + 1) := by rw [fillB_size, hN]
  have CH := fun y hy => Cha_good noughts (fillB m s) g1 1 (N + 1) (key.take 8) y (rfl : noughts.size = 8) hz (by rw [hz]; omega) (⟨take8_len key hl, by decide⟩ : kindN (key.take 8).length = 1 ∧ 1 ≤ 1) hy
  rw [noughts_bits, fillB_list] at CH
  have hp : (fillL m s.data.toList).length = 8 * (N + 1) := by rw [fillL_len, len_size, hN]
  have EX := chain_ext (key.take 8) (fillL m s.data.toList) N hp
  have sz : (⟨(chainL (key.take 8) z64 (fillL m s.data.toList)).toArray⟩ : ByteArray).size = 8 * N + 8 := by
    show (chainL _ _ _).toArray.size = _
    rw [List.size_toArray, chain_len _ _ _ (N + 1) hp]; omega
  rw [tagC, if_neg (by decide)]
  generalize (⟨(chainL (key.take 8) z64 (fillL m s.data.toList)).toArray⟩ : ByteArray) = C at *
  have CL := fun y => clone_any ⟨(byW (lastC (key.take 8) (fillL m s.data.toList))).toArray⟩ y (by show (byW _).toArray.size ≤ _; rw [List.size_toArray, byW_len]; omega)
  generalize (⟨(byW (lastC (key.take 8) (fillL m s.data.toList))).toArray⟩ : ByteArray) = L at *
  generalize fillB m s = F at *
  have hX : C.extract (C.size - 8) C.size = L := by rw [sz, show 8 * N + 8 - 8 = 8 * N by omega]; exact EX
  have q1 : (8 : Int) ≤ (C.size : Int) := by omega
  have q2 : (C.size : Int) ≤ 1000000010 := by omega
  clear EX sz hp hz hN hm hN2
  go_enter Tryz.func23, Tryz.ntmps23
  go_wp2_with fail
  refine Ql.region_cl (by kernel_rfl) (by kernel_rfl) ?_
  repeat (refine wpQuiet_step (fun K hK => ?_); first
    | (refine Ql.q_cell (by rfl) 62 _ rfl g 2 rfl _ c2 gl Tryz.isAgg62 (hK _ ?_); clear hK K)
    | (refine Ql.q_cell (by rfl) 3 _ rfl g 1 rfl _ c1 gl Tryz.isAgg3 (hK _ ?_); clear hK K)
    | (go_simp; apply Exists.intro; refine ⟨fun z hz => ?_, hK _ ?_⟩; (first | (go_at_call 37; exact Ql.cl_of hz (FI z)) | (go_at_call 36; exact Ql.cl_of hz (CH z (key_kept hz h2)))); clear hK K)
    | (go_simp; refine hK _ ?_; clear hK K)
    | (go_simp; refine ⟨_, fun _ _ => rfl, hK _ ?_⟩; clear hK K)
    | (go_simp; refine ⟨_, fun _ _ => ⟨rfl, rfl⟩, hK _ ?_⟩; clear hK K))
  refine wpQuiet_nil ?_
  intro y hy
  have hyb : Below w.heap.size w y := hy
  obtain ⟨d0, d1, d2, d3, k2, k3⟩ := four (Cb.kept hyb h1)
  go_wp2_with (go_at_call 40; refine (CL _).mono ?_; rintro e z ⟨rfl, hz⟩)
  go_ret
  exact ⟨rfl, keepB hyb hz⟩
set_option maxRecDepth 100000 in
set_option maxHeartbeats 1600000 in
theorem tag_three (g m : Nat) (hm : m = 1 ∨ m = 2) (key : List UInt8) (hl : key.length = 16) (s : ByteArray) (hs : s.size ≤ 1000000000) (w : World) (h : Sealed w g 3 m key) :
    Calls Tryz.prog 23 #[.pointer (some ⟨g, 0, none⟩), .string s] w fun e w' => e = .returned (.string ⟨(byW (tagC 3 key (fillL m s.data.toList))).toArray⟩) ∧ Below w.heap.size w w' := by
  obtain ⟨g1, p2, h1, h2, h3⟩ := h
  obtain ⟨g2, rfl, h4⟩ := h3 rfl
  obtain ⟨c0, c1, c2, c3, f2, f3⟩ := four h1
  have gl : g < w.heap.size := (Array.getElem?_eq_some_iff.1 h1).1
  have FI := fun y => filled_any m hm s (by omega) y
  obtain ⟨N, hN⟩ : ∃ N, nbM m s.size = N + 1 := ⟨nbM m s.size - 1, by have := nbM_pos m s.size; omega⟩
  have hN2 : 8 * (N + 1) ≤ 1000000009 := by have := nbM_le m s.size; omega
  have hz : (fillB m s).size = 8 * (N + 1) := by rw [fillB_size, hN]
  have CH := fun y hy => Cha_good noughts (fillB m s) g1 1 (N + 1) (key.take 8) y (rfl : noughts.size = 8) hz (by rw [hz]; omega) (⟨take8_len key (by omega), by decide⟩ : kindN (key.take 8).length = 1 ∧ 1 ≤ 1) hy
  rw [noughts_bits, fillB_list] at CH
  have hp : (fillL m s.data.toList).length = 8 * (N + 1) := by rw [fillL_len, len_size, hN]
  have EX := chain_ext (key.take 8) (fillL m s.data.toList) N hp
  have sz : (⟨(chainL (key.take 8) z64 (fillL m s.data.toList)).toArray⟩ : ByteArray).size = 8 * N + 8 := by
    show (chainL _ _ _).toArray.size = _
    rw [List.size_toArray, chain_len _ _ _ (N + 1) hp]; omega
  rw [tagC, if_pos rfl]
  generalize (⟨(chainL (key.take 8) z64 (fillL m s.data.toList)).toArray⟩ : ByteArray) = C at *
  have hlc := lastC_len (key.take 8) (fillL m s.data.toList)
  have k8 : kindN (key.drop 8).length = 1 := by rw [List.length_drop, hl]; rfl
  generalize lastC (key.take 8) (fillL m s.data.toList) = lc at *
  have DE := fun y hy => Dec_good ⟨(byW lc).toArray⟩ g2 1 1 (key.drop 8) y (by show (byW lc).toArray.size = 8 * 1; rw [List.size_toArray, byW_len]) (by show (byW lc).toArray.size ≤ _; rw [List.size_toArray, byW_len]; omega) (⟨k8, by decide⟩ : kindN (key.drop 8).length = 1 ∧ 1 ≤ 1) hy
  rw [show (ByteArray.mk (byW lc).toArray).data.toList = byW lc by simp, map_one _ _ hlc] at DE
  have hld := dec_len (key.drop 8) lc
  generalize dec (key.drop 8) lc = ld at *
  have EN := fun y hy => Enc_good ⟨(byW ld).toArray⟩ g1 1 1 (key.take 8) y (by show (byW ld).toArray.size = 8 * 1; rw [List.size_toArray, byW_len]) (by show (byW ld).toArray.size ≤ _; rw [List.size_toArray, byW_len]; omega) (⟨take8_len key (by omega), by decide⟩ : kindN (key.take 8).length = 1 ∧ 1 ≤ 1) hy
  rw [show (ByteArray.mk (byW ld).toArray).data.toList = byW ld by simp, map_one _ _ hld] at EN
  generalize enc (key.take 8) ld = le at *
  have CL := fun y => clone_any ⟨(byW le).toArray⟩ y (by show (byW _).toArray.size ≤ _; rw [List.size_toArray, byW_len]; omega)
  generalize (⟨(byW le).toArray⟩ : ByteArray) = T at *
  generalize (⟨(byW ld).toArray⟩ : ByteArray) = M at *
  generalize (⟨(byW lc).toArray⟩ : ByteArray) = L at *
  generalize fillB m s = F at *
  have hX : C.extract (C.size - 8) C.size = L := by rw [sz, show 8 * N + 8 - 8 = 8 * N by omega]; exact EX
  have q1 : (8 : Int) ≤ (C.size : Int) := by omega
  have q2 : (C.size : Int) ≤ 1000000010 := by omega
  clear EX sz hp hz hN hm hN2
  go_enter Tryz.func23, Tryz.ntmps23
  go_wp2_with fail
  refine Ql.region_cl (by kernel_rfl) (by kernel_rfl) ?_
  repeat (refine wpQuiet_step (fun K hK => ?_); first
    | (refine Ql.q_cell (by rfl) 62 _ rfl g 2 rfl _ c2 gl Tryz.isAgg62 (hK _ ?_); clear hK K)
    | (refine Ql.q_cell (by rfl) 3 _ rfl g 1 rfl _ c1 gl Tryz.isAgg3 (hK _ ?_); clear hK K)
    | (go_simp; apply Exists.intro; refine ⟨fun z hz => ?_, hK _ ?_⟩; (first | (go_at_call 37; exact Ql.cl_of hz (FI z)) | (go_at_call 36; exact Ql.cl_of hz (CH z (key_kept hz h2)))); clear hK K)
    | (go_simp; refine hK _ ?_; clear hK K)
    | (go_simp; refine ⟨_, fun _ _ => rfl, hK _ ?_⟩; clear hK K)
    | (go_simp; refine ⟨_, fun _ _ => ⟨rfl, rfl⟩, hK _ ?_⟩; clear hK K))
  refine wpQuiet_nil ?_
  intro y hy
  have hyb : Below w.heap.size w y := hy
  obtain ⟨d0, d1, d2, d3, k2, k3⟩ := four (Cb.kept hyb h1)
  have ky1 := key_kept hyb h2
  have ky2 := key_kept hyb h4
  go_wp2_with (first
    | (go_at_call 38; refine (DE _ ky2).mono ?_; rintro e z ⟨rfl, hz⟩; have kz1 := key_kept hz ky1; obtain ⟨e0, e1, e2, e3, m2, m3⟩ := four (Cb.kept (keepB hyb hz) h1))
    | (go_at_call 39; refine (EN _ kz1).mono ?_; rintro e z1 ⟨rfl, hz1⟩)
    | (go_at_call 40; refine (CL _).mono ?_; rintro e z2 ⟨rfl, hz2⟩))
  go_ret
  exact ⟨rfl, keepB (keepB (keepB hyb hz) hz1) hz2⟩
theorem tag_any (alg g m : Nat) (ha : alg = 1 ∨ alg = 3) (hm : m = 1 ∨ m = 2) (key : ByteArray) (hk : key.size = 4 + 4 * alg) (s : ByteArray) (hs : s.size ≤ 1000000000) (w : World) (h : Sealed w g alg m key.data.toList) :
    Calls Tryz.prog 23 #[.pointer (some ⟨g, 0, none⟩), .string s] w fun e w' => e = .returned (.string (tagB alg m key s)) ∧ Below w.heap.size w w' := by
  rcases ha with rfl | rfl
  · exact tag_one g m hm key.data.toList (by rw [len_size]; omega) s hs w h
  · exact tag_three g m hm key.data.toList (by rw [len_size]; omega) s hs w h
end Go.Proofs.YtpifebapodfeaaaGreat.Tg
/- Same. -/
namespace Go.Proofs.YtpifebapodfeaaaGreat.Sa
set_option linter.unusedVariables false
open Go.RowKit Cb Sm
theorem or8 (x y : UInt8) : bits .or .u8 (x.toNat : Int) (y.toNat : Int) = ((x ||| y).toNat : Int) := by
  rw [u8_or_nat _ _ x.toNat_lt y.toNat_lt, UInt8.toNat_or]
theorem xor8 (x y : UInt8) : bits .xor .u8 (x.toNat : Int) (y.toNat : Int) = ((x ^^^ y).toNat : Int) := by
  rw [u8_xor_nat _ _ x.toNat_lt y.toNat_lt, UInt8.toNat_xor]
def df (a b : ByteArray) : Nat → UInt8
  | 0 => 0
  | j + 1 => df a b j ||| (a.data.toList.getD j 0 ^^^ b.data.toList.getD j 0)
theorem df_zero (a b : ByteArray) : ∀ j, df a b j = 0 ↔ ∀ i, i < j → a.data.toList.getD i 0 = b.data.toList.getD i 0
  | 0 => by simp [df]
  | j + 1 => by
      rw [df, UInt8.or_eq_zero_iff, UInt8.xor_eq_zero_iff, df_zero a b j]
      constructor
      · rintro ⟨h1, h2⟩ i hi
        by_cases h : i < j
        · exact h1 i h
        · obtain rfl : i = j := by omega
          exact h2
      · intro h
        exact ⟨fun i hi => h i (by omega), h j (by omega)⟩
theorem df_eq (a b : ByteArray) (h : a.size = b.size) : (df a b a.size = 0) ↔ a = b := by
  rw [df_zero]
  constructor
  · intro hi
    apply ByteArray.ext
    apply Array.ext'
    apply List.ext_getElem?
    intro i
    have e1 : a.data.toList.length = a.size := by simp
    have e2 : b.data.toList.length = b.size := by simp
    by_cases hl : i < a.size
    · have := hi i hl
      rw [List.getD_eq_getElem?_getD, List.getD_eq_getElem?_getD, List.getElem?_eq_getElem (by omega), List.getElem?_eq_getElem (by omega)] at this
      rw [List.getElem?_eq_getElem (by omega), List.getElem?_eq_getElem (by omega)]
      simpa using this
    · rw [List.getElem?_eq_none (by omega), List.getElem?_eq_none (by omega)]
  · rintro rfl i _
    rfl
theorem getD_at (a : ByteArray) (j : Nat) (h : j < a.size) : a.data.toList.getD j 0 = a[j] := by
  rw [List.getD_eq_getElem?_getD, List.getElem?_eq_getElem (by simpa using h)]
  simp; rfl
set_option maxRecDepth 100000 in
set_option maxHeartbeats 1600000 in
theorem same_any (a b : ByteArray) (ha : a.size ≤ 9223372036854775807) (w : World) :
    Calls Tryz.prog 29 #[.string a, .string b] w fun e w' => e = .returned (.bool (a.toList == b.toList)) ∧ Below w.heap.size w w' := by
  by_cases hab : a.size = b.size
  · have Hab : Hid (a.size = b.size) := hab
    have q : ((a.size : Int) != (b.size : Int)) = false := by simp only [bne_eq_false_iff_eq]; omega
    clear hab
    go_enter Tryz.func29, Tryz.ntmps29
    go_wp2
    go_loopw [5, 6, 14] (fun d i c wr => ∃ (j : Nat), d = .int .u8 ((df a b j).toNat : Int) ∧ j ≤ a.size ∧ c = .int .i64 (j : Int) ∧ Below w.heap.size w wr) (fun _ _ c _ => a.size + 1 - (intOf c).toNat)
    case atStart => exact ⟨0, rfl, Nat.zero_le _, rfl, Below.refl _ _⟩
    case round =>
      obtain ⟨j, rfl, hj, rfl, hb⟩ := hrel
      by_cases hlt : j < a.size
      · have hjb : j < b.size := by have := Hab.out; omega
        have q0 : (0 : Int) ≤ (j : Int) := by omega
        have q1 : (j : Int) < (a.size : Int) := by omega
        have q2 : (j : Int) < (b.size : Int) := by omega
        have u1 := xor8 a[j] b[j]
        have u2 := or8 (df a b j) (a[j] ^^^ b[j])
        have HD : Hid (df a b j ||| (a[j] ^^^ b[j]) = df a b (j + 1)) := (by rw [df, getD_at a j hlt, getD_at b j hjb] : df a b j ||| (a[j] ^^^ b[j]) = df a b (j + 1))
        rw [HD.out] at u2
        clear HD
        go_wp2_with fail
        go_region
        go_wp2
        exact ⟨⟨j + 1, by rw [← UInt8.toNat_xor, u2], hlt, by simp, hb.drew⟩, by simp only [intOf]; omega⟩
      · obtain rfl : j = a.size := by omega
        have q1 : ¬ (a.size : Int) < (a.size : Int) := by omega
        have HE' : (((df a b a.size).toNat : Int) == 0) = (a.toList == b.toList) := by
          have h := df_eq a b Hab.out
          by_cases e : a = b
          · rw [show df a b a.size = 0 from h.2 e, (Lib.bytes_beq_iff a b).2 e]; rfl
          · have n : df a b a.size ≠ 0 := fun x => e (h.1 x)
            rw [(Lib.bytes_beq_false_iff a b).2 e]
            have : (df a b a.size).toNat ≠ 0 := fun x => n (UInt8.toNat_inj.1 (by simpa using x))
            simp only [beq_eq_false_iff_ne]; omega
        have HE : Hid ((((df a b a.size).toNat : Int) == 0) = (a.toList == b.toList)) := HE'
        clear HE'
        generalize (df a b a.size).toNat = D0 at *
        go_wp2
        go_ret
        exact ⟨by rw [HE.out]; rfl, hb⟩
  · have q : ((a.size : Int) != (b.size : Int)) = true := by simp only [bne_iff_ne]; omega
    have HE : Hid ((a.toList == b.toList) = false) := (Lib.bytes_beq_false_iff a b).2 fun e => hab (by rw [e])
    clear hab
    go_enter Tryz.func29, Tryz.ntmps29
    go_wp2
    go_ret
    exact ⟨by rw [HE.out]; rfl, Below.refl _ _⟩
end Go.Proofs.YtpifebapodfeaaaGreat.Sa
/- The numbers under which this dump holds sync.Mutex's functions and types. -/
namespace Go.Proofs.YtpifebapodfeaaaGreat.Lk
abbrev muLink : Go.Conc.Locks.MuLink := { lock := 20, unlock := 21, ilock := 34, iunlock := 35, lockSlow := 55, unlockSlow := 58, disable := 51, enable := 53, acquire := 54, relMerge := 56, cas32 := 52, add32 := 57, tMutex := 51, tIMutex := 49, tPMutex := 81, tPIMutex := 96, tPI32 := 98, tUP := 100, tNoCopy := 46, tU32 := 47 }
theorem muLib : Go.Conc.Locks.MuLib Tryz.prog muLink :=
  ⟨Tryz.func20, Tryz.func21, Tryz.func34, Tryz.func35, Tryz.func51, Tryz.func53, Tryz.func54, Tryz.func56, Tryz.func52, Tryz.func57, Tryz.underlying49, Tryz.runUnderlying49, Tryz.sizeOf49, Tryz.isAgg49, Tryz.zeroValue49, Tryz.underlying51, Tryz.runUnderlying51, Tryz.sizeOf51, Tryz.isAgg51, Tryz.zeroValue51, Tryz.underlying81, Tryz.runUnderlying81, Tryz.sizeOf81, Tryz.isAgg81, Tryz.zeroValue81, Tryz.underlying96, Tryz.runUnderlying96, Tryz.sizeOf96, Tryz.isAgg96, Tryz.zeroValue96, Tryz.underlying98, Tryz.runUnderlying98, Tryz.sizeOf98, Tryz.isAgg98, Tryz.zeroValue98, Tryz.underlying100, Tryz.runUnderlying100, Tryz.sizeOf100, Tryz.isAgg100, Tryz.zeroValue100, Tryz.underlying46, Tryz.runUnderlying46, Tryz.sizeOf46, Tryz.isAgg46, Tryz.zeroValue46, Tryz.underlying21, Tryz.runUnderlying21, Tryz.sizeOf21, Tryz.isAgg21, Tryz.zeroValue21, (by kernel_rfl)⟩
end Go.Proofs.YtpifebapodfeaaaGreat.Lk
/- Slots: what lies in memory. -/
namespace Go.Proofs.YtpifebapodfeaaaGreat.Sd
set_option linter.unusedVariables false
open Go.RowKit Pla Cb Sm Wd Nw Bk Eb Et Cc Ch Pm Fp Sp Pe Se Tg
structure Held where
  alg : Nat
  m : Nat
  key : ByteArray
  ex : ByteArray
  round : Nat
structure Held.Ok (h : Held) : Prop where
  alg : h.alg = 1 ∨ h.alg = 3
  m : h.m = 1 ∨ h.m = 2
  key : h.key.size = 4 + 4 * h.alg
  ex : h.ex.size = 0 ∨ h.ex.size = 16
  round : h.round ≤ 999999999
/-- what a slot's three cells are -/
def Has (w : World) : Option Held → Value → Value → Value → Prop
  | Option.none, p, x, r => p = .pointer Option.none ∧ x = .pointer Option.none ∧ r = .int .i64 0
  | Option.some h, p, x, r => h.Ok ∧ r = .int .i64 (h.round : Int) ∧ (∃ g, p = .pointer (some ⟨g, 0, Option.none⟩) ∧ Sealed w g h.alg h.m h.key.data.toList) ∧ ((h.ex.size = 0 ∧ x = .pointer Option.none) ∨ (h.ex.size = 16 ∧ ∃ gx, x = .pointer (some ⟨gx, 0, Option.none⟩) ∧ Key w gx 2 h.ex.data.toList))
def Row (w : World) (d n : Nat) (f : Nat → Option Held) (A : Array Value) : Prop := A.size = 3 * n ∧ w.heap[d]? = some (.cells A 64) ∧ ∀ i, i < n → ∃ p x r, A[i * 3]? = some p ∧ A[i * 3 + 1]? = some x ∧ A[i * 3 + 2]? = some r ∧ Has w (f i) p x r
def Mu (w : World) (b d n : Nat) (k : Int) : Prop := w.heap[b]? = some (.cells #[.int .i32 k, .int .u32 0, .slice (some ⟨d, 0, Option.none⟩) n n] 53)
def Slots (w : World) (b d n : Nat) (f : Nat → Option Held) : Prop := Mu w b d n 0 ∧ 1 ≤ n ∧ n ≤ 32 ∧ ∃ A, Row w d n f A
/-- as it was, but for two blocks -/
def Fr (b d : Nat) (a w : World) : Prop := w.os = a.os ∧ w.tape = a.tape ∧ w.output = a.output ∧ a.heap.size ≤ w.heap.size ∧ ∀ k, k < a.heap.size → k ≠ b → k ≠ d → w.heap[k]? = a.heap[k]?
theorem Fr.refl (b d : Nat) (a : World) : Fr b d a a := ⟨rfl, rfl, rfl, Nat.le_refl _, fun _ _ _ _ => rfl⟩
theorem Fr.trans {b d : Nat} {a w x : World} (h : Fr b d a w) (k : Fr b d w x) : Fr b d a x :=
  ⟨k.1.trans h.1, k.2.1.trans h.2.1, k.2.2.1.trans h.2.2.1, Nat.le_trans h.2.2.2.1 k.2.2.2.1, fun i hi h1 h2 => (k.2.2.2.2 i (Nat.lt_of_lt_of_le hi h.2.2.2.1) h1 h2).trans (h.2.2.2.2 i hi h1 h2)⟩
theorem Fr.of {b d : Nat} {a w : World} (h : Below a.heap.size a w) : Fr b d a w := ⟨h.os, h.tape, h.output, h.size, fun k hk _ _ => h.block k hk⟩
theorem Fr.below {b d B : Nat} {a w : World} (h : Fr b d a w) (hb : B ≤ b) (hd : B ≤ d) (hB : B ≤ a.heap.size) : Below B a w :=
  ⟨h.1, h.2.1, h.2.2.1, h.2.2.2.1, fun k hk => h.2.2.2.2 k (by omega) (by omega) (by omega)⟩
theorem Fr.set1 (b d : Nat) (w : World) (o : Nat) (v : Value) : Fr b d w (w.setCell ⟨b, o, Option.none⟩ v) :=
  ⟨rfl, rfl, rfl, by simp [World.setCell], fun k _ h1 _ => Below.heap_setCell w ⟨b, o, Option.none⟩ v k h1⟩
theorem Fr.set2 (b d : Nat) (w : World) (o : Nat) (v : Value) : Fr b d w (w.setCell ⟨d, o, Option.none⟩ v) :=
  ⟨rfl, rfl, rfl, by simp [World.setCell], fun k _ _ h2 => Below.heap_setCell w ⟨d, o, Option.none⟩ v k h2⟩
theorem ne_of_type {w : World} {g b : Nat} {A B : Array Value} {t t' : TypeId} {fr fr' : Nat × Nat} (h1 : w.heap[g]? = some (.cells A t fr)) (h2 : w.heap[b]? = some (.cells B t' fr')) (ht : t ≠ t') : g ≠ b := by
  rintro rfl
  rw [h1] at h2
  injection h2 with h2
  injection h2 with h3 h4 h5
  exact ht h4
theorem Fr.keep {b d g : Nat} {a w : World} {o : Obj} (h : Fr b d a w) (hg : a.heap[g]? = some o) (h1 : g ≠ b) (h2 : g ≠ d) : w.heap[g]? = some o := (h.2.2.2.2 g (Array.getElem?_eq_some_iff.1 hg).1 h1 h2).trans hg
theorem Fr.key {b d n g K : Nat} {k : Int} {a w : World} {l : List UInt8} {A : Array Value} (h : Fr b d a w) (hm : Mu a b d n k) (hd : a.heap[d]? = some (.cells A 64)) (hk : Key a g K l) : Key w g K l :=
  h.keep hk (ne_of_type hk hm (by decide)) (ne_of_type hk hd (by decide))
theorem Fr.sealed {b d n g alg m : Nat} {k : Int} {a w : World} {key : List UInt8} {A : Array Value} (h : Fr b d a w) (hm : Mu a b d n k) (hd : a.heap[d]? = some (.cells A 64)) (hs : Sealed a g alg m key) : Sealed w g alg m key := by
  obtain ⟨g1, p2, h1, h2, h3⟩ := hs
  refine ⟨g1, p2, h.keep h1 (ne_of_type h1 hm (by decide)) (ne_of_type h1 hd (by decide)), h.key hm hd h2, fun e => ?_⟩
  obtain ⟨g2, e2, k2⟩ := h3 e
  exact ⟨g2, e2, h.key hm hd k2⟩
theorem Fr.has {b d n : Nat} {k : Int} {a w : World} {A : Array Value} (h : Fr b d a w) (hm : Mu a b d n k) (hd : a.heap[d]? = some (.cells A 64)) {o : Option Held} {p x r : Value} (hh : Has a o p x r) : Has w o p x r := by
  cases o with
  | none => exact hh
  | some hl =>
    obtain ⟨h1, h2, ⟨g, h3, h4⟩, h5⟩ := hh
    refine ⟨h1, h2, ⟨g, h3, h.sealed hm hd h4⟩, ?_⟩
    rcases h5 with h5 | ⟨h5, gx, h6, h7⟩
    · exact .inl h5
    · exact .inr ⟨h5, gx, h6, h.key hm hd h7⟩
theorem Fr.row {b d n : Nat} {k : Int} {a w : World} {A : Array Value} {f : Nat → Option Held} (h : Fr b d a w) (hm : Mu a b d n k) (hr : Row a d n f A) (hd : w.heap[d]? = some (.cells A 64)) : Row w d n f A :=
  ⟨hr.1, hd, fun i hi => by obtain ⟨p, x, r, h1, h2, h3, h4⟩ := hr.2.2 i hi; exact ⟨p, x, r, h1, h2, h3, h.has hm hr.2.1 h4⟩⟩
theorem Mu.ne {w : World} {b d n : Nat} {k : Int} {A : Array Value} (hm : Mu w b d n k) (hd : w.heap[d]? = some (.cells A 64)) : b ≠ d := ne_of_type hm hd (by decide)
/-- the lock's cells -/
theorem Mu.cells {w : World} {b d n : Nat} {k : Int} (h : Mu w b d n k) : w.cell? ⟨b, 0, Option.none⟩ = some (.int .i32 k) ∧ w.cell? ⟨b, 2, Option.none⟩ = some (.slice (some ⟨d, 0, Option.none⟩) n n) ∧ w.frozen? ⟨b, 0, Option.none⟩ = false := by
  refine ⟨?_, ?_, ?_⟩ <;> simp [World.cell?, World.frozen?, show w.heap[b]? = _ from h]
theorem Mu.set {w : World} {b d n : Nat} {k : Int} (h : Mu w b d n k) (k' : Int) : Mu (w.setCell ⟨b, 0, Option.none⟩ (.int .i32 k')) b d n k' := setCell_heap h 0 _
theorem lt_of_cell {w : World} {b o : Nat} {v : Value} (h : w.cell? ⟨b, o, Option.none⟩ = some v) : b < w.heap.size := by
  by_cases hb : b < w.heap.size
  · exact hb
  · exfalso
    have e : w.heap[b]? = Option.none := Array.getElem?_eq_none (by omega)
    simp [World.cell?, e] at h
theorem below_ne {a w : World} {b d n : Nat} {k : Int} (h : Below a.heap.size a w) (hm : Mu a b d n k) : Mu w b d n k := Cb.kept h hm
set_option maxRecDepth 100000 in
set_option maxHeartbeats 1600000 in
theorem at_in (b d n s : Nat) (hs : s < n) (hn : n ≤ 32) (w : World) (hc : w.cell? ⟨b, 2, Option.none⟩ = some (.slice (some ⟨d, 0, Option.none⟩) n n)) :
    Calls Tryz.prog 22 #[.pointer (some ⟨b, 0, Option.none⟩), .int .i64 (s : Int)] w fun e w' => e = .returned (.pointer (some ⟨d, s * 3, Option.none⟩)) ∧ w' = w := by
  have q0 : ¬ (s : Int) < 0 := by omega
  have q1 : ¬ (s : Int) ≥ (n : Int) := by omega
  have q2 : (s : Int) < (n : Int) := by omega
  have q3 : (0 : Int) ≤ (s : Int) := by omega
  go_enter Tryz.func22, Tryz.ntmps22
  go_wp2
  go_ret
  exact ⟨rfl, rfl⟩
theorem at_out (b d n : Nat) (a : Int) (ha : a < 0 ∨ (n : Int) ≤ a) (hn : n ≤ 32) (w : World) (hc : w.cell? ⟨b, 2, Option.none⟩ = some (.slice (some ⟨d, 0, Option.none⟩) n n)) :
    Calls Tryz.prog 22 #[.pointer (some ⟨b, 0, Option.none⟩), .int .i64 a] w fun e w' => e = .returned (.pointer Option.none) ∧ w' = w := by
  by_cases h0 : a < 0
  · go_enter Tryz.func22, Tryz.ntmps22
    go_wp2
    go_ret
    exact ⟨rfl, rfl⟩
  · have q1 : a ≥ (n : Int) := by omega
    have q2 : (n : Int) ≤ a := by omega
    clear ha
    go_enter Tryz.func22, Tryz.ntmps22
    go_wp2
    go_ret
    exact ⟨rfl, rfl⟩
/-- behind what only lays new blocks while the lock is held -/
theorem shut {w y : World} {b d n : Nat} {f : Nat → Option Held} {A : Array Value} (hm : Mu w b d n 0) (n1 : 1 ≤ n) (n2 : n ≤ 32) (hr : Row w d n f A)
    (hy : Below (w.setCell ⟨b, 0, Option.none⟩ (.int .i32 1)).heap.size (w.setCell ⟨b, 0, Option.none⟩ (.int .i32 1)) y) :
    Slots (y.setCell ⟨b, 0, Option.none⟩ (.int .i32 0)) b d n f ∧ Fr b d w (y.setCell ⟨b, 0, Option.none⟩ (.int .i32 0)) := by
  have hne := hm.ne hr.2.1
  have M2 : Mu y b d n 1 := Cb.kept hy (hm.set 1)
  have F := ((Fr.set1 b d w 0 (.int .i32 1)).trans (Fr.of hy)).trans (Fr.set1 b d y 0 (.int .i32 0))
  have d1 : (w.setCell ⟨b, 0, Option.none⟩ (.int .i32 1)).heap[d]? = some (.cells A 64) := (Below.heap_setCell w ⟨b, 0, Option.none⟩ _ d hne.symm).trans hr.2.1
  have d2 : (y.setCell ⟨b, 0, Option.none⟩ (.int .i32 0)).heap[d]? = some (.cells A 64) := (Below.heap_setCell y ⟨b, 0, Option.none⟩ _ d hne.symm).trans (Cb.kept hy d1)
  exact ⟨⟨M2.set 0, n1, n2, A, F.row hm hr d2⟩, F⟩
/-- the world behind Lock -/
theorem locked {w : World} {b d n : Nat} {f : Nat → Option Held} {A : Array Value} (hm : Mu w b d n 0) (hr : Row w d n f A) :
    Mu (w.setCell ⟨b, 0, Option.none⟩ (.int .i32 1)) b d n 1 ∧ Row (w.setCell ⟨b, 0, Option.none⟩ (.int .i32 1)) d n f A := by
  have hne := hm.ne hr.2.1
  have d1 : (w.setCell ⟨b, 0, Option.none⟩ (.int .i32 1)).heap[d]? = some (.cells A 64) := (Below.heap_setCell w ⟨b, 0, Option.none⟩ _ d hne.symm).trans hr.2.1
  exact ⟨hm.set 1, (Fr.set1 b d w 0 (.int .i32 1)).row hm hr d1⟩
open Go.MuLone in
set_option maxRecDepth 100000 in
set_option maxHeartbeats 1600000 in
theorem Tag_in (b d n s : Nat) (f : Nat → Option Held) (h : Held) (hs : s < n) (hf : f s = Option.some h) (text : ByteArray) (ht : text.size ≤ 1000000000) (w : World) (hS : Slots w b d n f) :
    Calls Tryz.prog 8 #[.pointer (some ⟨b, 0, Option.none⟩), .int .i64 (s : Int), .string text] w fun e w' => e = .returned (.tuple #[.string (tagB h.alg h.m h.key text), .int .i64 0]) ∧ Slots w' b d n f ∧ Fr b d w w' := by
  obtain ⟨hm, n1, n2, A, hr⟩ := hS
  have SH := fun y hy => shut (y := y) hm n1 n2 hr hy
  obtain ⟨m0, m2, mf⟩ := hm.cells
  obtain ⟨M1, R1⟩ := locked hm hr
  have LO := lock_free Lk.muLib ⟨b, 0, Option.none⟩ w m0 mf
  generalize w.setCell ⟨b, 0, Option.none⟩ (.int .i32 1) = W1 at *
  obtain ⟨p, x, r, a0, a1, a2, hh⟩ := R1.2.2 s hs
  rw [hf] at hh
  obtain ⟨ok, rfl, ⟨g, rfl, sg⟩, hx⟩ := hh
  have c0 : W1.cell? ⟨d, s * 3, Option.none⟩ = some (.pointer (some ⟨g, 0, Option.none⟩)) := by rw [cell_of_row W1 _ _ _ _ _ R1.2.1, a0]
  obtain ⟨k0, k2, kf⟩ := M1.cells
  have AT := fun y hy => at_in b d n s hs n2 y hy
  have TA := fun y hy => tag_any h.alg g h.m ok.alg ok.m h.key ok.key text ht y hy
  generalize tagB h.alg h.m h.key text = T at *
  generalize s * 3 = o at *
  clear hm hr R1 a0 a1 a2 hx ok hs
  go_enter_defers Tryz.func8, Tryz.ntmps8
  go_wp2_with (first
    | (go_at_call 20; refine LO.mono ?_; rintro e w' ⟨rfl, rfl⟩)
    | (go_at_call 22; refine (AT _ k2).mono ?_; rintro e w' ⟨rfl, rfl⟩)
    | (go_at_call 23; refine (TA _ sg).mono ?_; rintro e y ⟨rfl, hy⟩))
  have M2 := Cb.kept hy M1
  obtain ⟨j0, j2, jf⟩ := Mu.cells M2
  refine leaves_cons (f := 21) (args := #[.pointer (some ⟨b, 0, Option.none⟩)]) (by simp) (by simp [go_sem]) ?_
  refine (unlock_deferred Lk.muLib ⟨b, 0, Option.none⟩ .returning _ j0 jf).mono ?_
  rintro e u' w'' ⟨rfl, rfl, rfl⟩
  exact ⟨_, results_tmp2 rfl _ _ _, rfl, SH _ hy⟩
end Go.Proofs.YtpifebapodfeaaaGreat.Sd
