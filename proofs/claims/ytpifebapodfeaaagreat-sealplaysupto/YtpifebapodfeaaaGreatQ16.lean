import Derived.Test.YtpifebapodfeaaaGreatQ15
import Derived.Test.YtpifebapodfeaaaGreatQ14
import Derived.Test.YtpifebapodfeaaaGreatQ11
import Derived.Test.YtpifebapodfeaaaGreatRows
import Derived.WalkKit
import Derived.WalkLawsBesides
import Derived.WalkSpells
/- The document's Weak. -/
namespace Go.Proofs.YtpifebapodfeaaaGreat.Ow
set_option linter.unusedVariables false
open Go.RowKit Pla Cb Tk Sm Wd Nw Bk Eb Et Xo Od Wk
/-- the document's weak keys -/
def wb : Nat → ByteArray
  | 0 => ⟨#[1, 1, 1, 1, 1, 1, 1, 1]⟩
  | 1 => ⟨#[254, 254, 254, 254, 254, 254, 254, 254]⟩
  | 2 => ⟨#[224, 224, 224, 224, 241, 241, 241, 241]⟩
  | _ => ⟨#[31, 31, 31, 31, 14, 14, 14, 14]⟩
theorem wb_size (k : Nat) : (wb k).size = 8 := by
  unfold wb; split <;> rfl
/-- the first m bytes of part i are those of a key, but for their lowest bits -/
def hlf (s : ByteArray) (i : Nat) (kb : ByteArray) (m : Nat) : Bool := (List.range m).all fun t => (s.data.toList.getD (8 * i + t) 0).toNat / 2 == (kb.data.toList.getD t 0).toNat / 2
def anyK (s : ByteArray) (i : Nat) (k : Nat) : Bool := (List.range k).any fun t => hlf s i (wb t) 8
theorem hlf_step (s : ByteArray) (i : Nat) (kb : ByteArray) (m : Nat) (h1 : 8 * i + m < s.size) (h2 : m < kb.size) : hlf s i kb (m + 1) = (hlf s i kb m && (s[8 * i + m].toNat / 2 == kb[m].toNat / 2)) := by
  have e1 : s.data.toList.getD (8 * i + m) 0 = s[8 * i + m] := by rw [List.getD_eq_getElem?_getD, List.getElem?_eq_getElem (by simpa using h1)]; rfl
  have e2 : kb.data.toList.getD m 0 = kb[m] := by rw [List.getD_eq_getElem?_getD, List.getElem?_eq_getElem (by simpa using h2)]; rfl
  rw [hlf, List.range_succ, List.all_append]
  simp only [List.all_cons, List.all_nil, Bool.and_true, e1, e2]; rfl
theorem anyK_succ (s : ByteArray) (i k : Nat) : anyK s i (k + 1) = (anyK s i k || hlf s i (wb k) 8) := by simp [anyK, List.range_succ]
theorem anyK_mono (s : ByteArray) (i k K : Nat) (h : k < K) (hw : hlf s i (wb k) 8 = true) : anyK s i K = true := by
  rw [anyK, List.any_eq_true]; exact ⟨k, List.mem_range.2 h, hw⟩
theorem half_val (x y : UInt8) : Value.bool ((x.toNat : Int) / 2 % 256 == (y.toNat : Int) / 2 % 256) = Value.bool (x.toNat / 2 == y.toNat / 2) := by
  have h1 := x.toNat_lt
  have h2 := y.toNat_lt
  congr 1
  rw [Bool.eq_iff_iff, beq_iff_eq, beq_iff_eq]
  constructor <;> intro h <;> omega
theorem one (y : UInt8) (hy : ∀ c : Fin 256, (oddC (UInt8.ofNat c.val) == y) = (c.val / 2 == y.toNat / 2)) (x : UInt8) : (oddC x == y) = (x.toNat / 2 == y.toNat / 2) := by
  have h := hy ⟨x.toNat, x.toNat_lt⟩
  rw [show UInt8.ofNat (⟨x.toNat, x.toNat_lt⟩ : Fin 256).val = x from UInt8.ofNat_toNat] at h
  exact h
theorem o1 (x : UInt8) : (oddC x == 1) = (x.toNat / 2 == (1 : UInt8).toNat / 2) := one 1 (by decide +kernel) x
theorem o254 (x : UInt8) : (oddC x == 254) = (x.toNat / 2 == (254 : UInt8).toNat / 2) := one 254 (by decide +kernel) x
theorem o224 (x : UInt8) : (oddC x == 224) = (x.toNat / 2 == (224 : UInt8).toNat / 2) := one 224 (by decide +kernel) x
theorem o241 (x : UInt8) : (oddC x == 241) = (x.toNat / 2 == (241 : UInt8).toNat / 2) := one 241 (by decide +kernel) x
theorem o31 (x : UInt8) : (oddC x == 31) = (x.toNat / 2 == (31 : UInt8).toNat / 2) := one 31 (by decide +kernel) x
theorem o14 (x : UInt8) : (oddC x == 14) = (x.toNat / 2 == (14 : UInt8).toNat / 2) := one 14 (by decide +kernel) x
theorem eight (l kb : List UInt8) (hl : l.length = 8) (hk : kb.length = 8) (h : ∀ y ∈ kb, ∀ x, (oddC x == y) = (x.toNat / 2 == y.toNat / 2)) :
    (oddL l == kb) = (List.range 8).all fun t => (l.getD t 0).toNat / 2 == (kb.getD t 0).toNat / 2 := by
  match l, hl, kb, hk with
  | [a0, a1, a2, a3, a4, a5, a6, a7], _, [b0, b1, b2, b3, b4, b5, b6, b7], _ =>
    have r : List.range 8 = [0, 1, 2, 3, 4, 5, 6, 7] := rfl
    rw [r]
    simp only [oddL, List.map_cons, List.map_nil, List.cons_beq_cons, List.all_cons, List.all_nil, List.getD_cons_zero, List.getD_cons_succ, h b0 (by simp) a0, h b1 (by simp) a1, h b2 (by simp) a2, h b3 (by simp) a3, h b4 (by simp) a4, h b5 (by simp) a5, h b6 (by simp) a6, h b7 (by simp) a7]
    rfl
theorem hlf_pt (s : ByteArray) (i : Nat) (kb : ByteArray) : hlf s i kb 8 = (List.range 8).all fun t => ((pt s.data.toList i).getD t 0).toNat / 2 == (kb.data.toList.getD t 0).toNat / 2 := by
  have e : ∀ t, t < 8 → (pt s.data.toList i).getD t 0 = s.data.toList.getD (8 * i + t) 0 := by
    intro t ht
    simp [pt, ht]
  rw [hlf, Bool.eq_iff_iff, List.all_eq_true, List.all_eq_true]
  constructor <;> intro H t ht <;> have := H t ht
  · rw [e t (List.mem_range.1 ht)]; exact this
  · rw [e t (List.mem_range.1 ht)] at this; exact this
theorem weak_link (s : ByteArray) (i : Nat) (h : 8 * i + 8 ≤ s.size) : isW (oddP s i) = anyK s i 4 := by
  have hl : (pt s.data.toList i).length = 8 := by
    rw [pt, List.length_take, List.length_drop]
    have : s.data.toList.length = s.size := by simp
    omega
  have r : List.range 4 = [0, 1, 2, 3] := rfl
  rw [anyK, r]
  simp only [List.any_cons, List.any_nil, hlf_pt, Bool.or_false]
  rw [isW, oddP, ByteArray.toList_mk]
  rw [eight _ k1 hl rfl (by intro y hy x; simp [k1] at hy; subst hy; exact o1 x), eight _ k2 hl rfl (by intro y hy x; simp [k2] at hy; subst hy; exact o254 x),
    eight _ k3 hl rfl (by intro y hy x; simp [k3] at hy; rcases hy with rfl | rfl; exact o224 x; exact o241 x), eight _ k4 hl rfl (by intro y hy x; simp [k4] at hy; rcases hy with rfl | rfl; exact o31 x; exact o14 x)]
  rw [Bool.or_assoc, Bool.or_assoc]; rfl
theorem cell_of {a x : World} {b : Nat} {t : TypeId} (h : Below a.heap.size a x) (hb : a.heap[b]? = some (Obj.cells #[.string (wb 0), .string (wb 1), .string (wb 2), .string (wb 3)] t)) (k : Nat) (hk : k < 4) :
    x.cell? ⟨b, k, none⟩ = some (.string (wb k)) := by
  have hx := kept h hb
  match k, hk with
  | 0, _ => simp [World.cell?, hx]
  | 1, _ => simp [World.cell?, hx]
  | 2, _ => simp [World.cell?, hx]
  | 3, _ => simp [World.cell?, hx]
set_option maxRecDepth 100000 in
set_option maxHeartbeats 3200000 in
theorem weak_ref (s : ByteArray) (w : World) :
    Calls Tryz.prog 50 #[.string s] w fun e w' => e = .returned (.bool (wkU s (kindN s.size))) ∧ Below w.heap.size w w' := by
  have LE := fun u => Rl.length_ref s u
  by_cases hz : kindN s.size = 0
  · have el : Rl.lenB s.size = false := by rw [Rl.len_kind, hz]; rfl
    rw [el] at LE
    have H0 : Hid (wkU s (kindN s.size) = false) := (by rw [hz]; rfl : wkU s (kindN s.size) = false)
    clear el hz
    generalize wkU s (kindN s.size) = r at *
    go_enter Tryz.func50, Tryz.ntmps50
    go_wp2_with (go_at_call 70; refine (LE _).mono ?_; rintro e x3 ⟨rfl, hx3⟩; rw [hx3])
    go_ret
    exact ⟨by rw [H0.out]; rfl, Below.refl _ _⟩
  · have el : Rl.lenB s.size = true := by rw [Rl.len_kind]; simp [hz]
    rw [el] at LE
    clear el
    obtain ⟨K, hK⟩ : ∃ K, kindN s.size = K := ⟨_, rfl⟩
    have h8 : s.size = 8 * K := by
      have := hK
      unfold kindN at this
      split at this
      · omega
      · split at this
        · omega
        · split at this <;> omega
    have K3 : K ≤ 3 := by
      have := hK
      unfold kindN at this
      split at this
      · omega
      · split at this
        · omega
        · split at this <;> omega
    rw [hK]
    have H8 : Hid (s.size = 8 * K) := h8
    clear hK hz h8
    go_enter Tryz.func50, Tryz.ntmps50
    go_wp2_with (go_at_call 70; refine (LE _).mono ?_; rintro e x3 ⟨rfl, hx3⟩; rw [hx3])
    have hc : (w.alloc (Obj.cells #[.string (wb 0), .string (wb 1), .string (wb 2), .string (wb 3)] 9)).heap[w.heap.size]? = some (Obj.cells #[.string (wb 0), .string (wb 1), .string (wb 2), .string (wb 3)] 9) := h1_0 w _
    have hb1 := below_one w (Obj.cells #[.string (wb 0), .string (wb 1), .string (wb 2), .string (wb 3)] 9)
    change Code.wp _ _ _ _ (w.alloc (Obj.cells #[.string (wb 0), .string (wb 1), .string (wb 2), .string (wb 3)] 9))
    generalize (w.alloc (Obj.cells #[.string (wb 0), .string (wb 1), .string (wb 2), .string (wb 3)] 9)) = w1 at *
    clear LE
    go_loopw [5, 6, 7, 8] (fun c k sm jj wr => ∃ i : Nat, i ≤ K ∧ c = .int .i64 (8 * (i : Int)) ∧ Hid (wkU s i = false) ∧ Below w1.heap.size w1 wr) (fun c _ _ _ _ => 33 - (intOf c).toNat)
    case atStart => exact ⟨0, Nat.zero_le _, rfl, rfl, Below.refl _ _⟩
    case round =>
      obtain ⟨i, hi, rfl, hwk, hbw⟩ := hrel
      rename World => w9
      by_cases hlt : i < K
      · have q0 : (0 : Int) ≤ 8 * (i : Int) := by omega
        have q1 : 8 * (i : Int) < (s.size : Int) := by have := H8.out; omega
        have q2 : 8 * (i : Int) ≤ 24 := by omega
        have LK : Hid (isW (oddP s i) = anyK s i 4) := weak_link s i (by have := H8.out; omega)
        go_wp2
        go_loopw [6, 7, 8] (fun c sm jj wr => ∃ k : Nat, k ≤ 4 ∧ c = .int .i64 (k : Int) ∧ Hid (anyK s i k = false) ∧ Below w1.heap.size w1 wr) (fun c _ _ _ => 5 - (intOf c).toNat)
        case atStart => exact ⟨0, Nat.zero_le _, rfl, rfl, hbw⟩
        case round =>
          obtain ⟨k, hk, rfl, hak, hbk⟩ := hrel
          rename World => w8
          by_cases hk4 : k < 4
          · have r0 : (0 : Int) ≤ (k : Int) := by omega
            have r1 : (k : Int) < 4 := by omega
            have HA : Hid (anyK s i (k + 1) = (anyK s i k || hlf s i (wb k) 8)) := anyK_succ s i k
            have HM : Hid (hlf s i (wb k) 8 = true → wkU s K = true) := fun h => wkU_mono s i K hlt (LK.out.trans (anyK_mono s i k 4 hk4 h))
            have CE := fun x hx => cell_of (x := x) hx hc k hk4
            have kz : Hid ((wb k).size = 8) := wb_size k
            generalize wb k = kb at *
            go_wp2
            go_loopw [7, 8] (fun sm jj wr => ∃ m : Nat, m ≤ 8 ∧ jj = .int .i64 (m : Int) ∧ sm = .bool (hlf s i kb m) ∧ Below w1.heap.size w1 wr) (fun _ jj _ => 9 - (intOf jj).toNat)
            case atStart => exact ⟨0, Nat.zero_le _, rfl, rfl, hbk⟩
            case round =>
              obtain ⟨m, hm, rfl, rfl, hbm⟩ := hrel
              by_cases hm8 : m < 8
              · have p0 : (0 : Int) ≤ (m : Int) := by omega
                have p1 : (m : Int) < 8 := by omega
                have p2 : 8 * (i : Int) + (m : Int) < (s.size : Int) := by have := H8.out; omega
                have p3 : (0 : Int) ≤ 8 * (i : Int) + (m : Int) := by omega
                have p4 : (m : Int) < (kb.size : Int) := by have := kz.out; omega
                have t1 : (8 * (i : Int) + (m : Int)).toNat = 8 * i + m := by omega
                have n1 : 8 * i + m < s.size := by omega
                have n2 : m < kb.size := by omega
                have c1 := CE _ hbm
                have HS : Hid (hlf s i kb (m + 1) = (hlf s i kb m && (s[8 * i + m].toNat / 2 == kb[m].toNat / 2))) := hlf_step s i kb m n1 n2
                cases hh : hlf s i kb m
                · have HF : Hid (hlf s i kb (m + 1) = false) := (by rw [HS.out, hh]; rfl : hlf s i kb (m + 1) = false)
                  clear HS HA HM hak hwk LK
                  go_wp2_with fail
                  go_quiet (fail)
                  go_wp2
                  exact ⟨⟨m + 1, hm8, by simp, by rw [HF.out], below_drewN hbm _⟩, by simp only [intOf]; omega⟩
                · have HF : Hid (hlf s i kb (m + 1) = (s[8 * i + m].toNat / 2 == kb[m].toNat / 2)) := (by rw [HS.out, hh]; rfl : hlf s i kb (m + 1) = (s[8 * i + m].toNat / 2 == kb[m].toNat / 2))
                  clear HS HA HM hak hwk LK
                  go_wp2_with fail
                  go_quiet (fail)
                  go_wp2
                  exact ⟨⟨m + 1, hm8, by simp, by rw [HF.out]; exact half_val _ _, below_drewN hbm _⟩, by simp only [intOf]; omega⟩
              · obtain rfl : m = 8 := by omega
                cases hh : hlf s i kb 8
                · have HF : Hid (anyK s i (k + 1) = false) := (by rw [HA.out, hak.out, hh]; rfl : anyK s i (k + 1) = false)
                  clear HA HM hak hwk LK
                  go_wp2
                  exact ⟨⟨k + 1, hk4, by simp, HF.out, hbm⟩, by simp only [intOf]; omega⟩
                · have HF : Hid (wkU s K = true) := HM.out hh
                  clear HA HM hak hwk LK
                  go_wp2
                  go_ret
                  exact ⟨by rw [HF.out]; rfl, keepB hb1 hbm⟩
          · obtain rfl : k = 4 := by omega
            have HF : Hid (wkU s (i + 1) = false) := (by rw [wkU_succ, hwk.out, LK.out, hak.out]; rfl : wkU s (i + 1) = false)
            clear hak hwk LK
            go_wp2
            exact ⟨⟨i + 1, hlt, by congr 1, HF.out, hbk⟩, by simp only [intOf]; omega⟩
      · obtain rfl : i = K := by omega
        have q1 : ¬ 8 * (i : Int) < (s.size : Int) := by have := H8.out; omega
        go_wp2
        go_ret
        exact ⟨by rw [hwk.out]; rfl, keepB hb1 hbw⟩
end Go.Proofs.YtpifebapodfeaaaGreat.Ow
/- The document's Odd. -/
namespace Go.Proofs.YtpifebapodfeaaaGreat.Or
set_option linter.unusedVariables false
open Go.RowKit Pla Cb Tk Sm Wd Nw Bk Eb Et Xo Od
open Lib0 (bs bs_length bs_append owns_len run_str own_ge below_app below_app0)
/-- the ones among the bits 1 to k - 1 -/
def onesU (c : Nat) : Nat → Nat
  | 0 => 0
  | k + 1 => onesU c k + (c.testBit (k + 1)).toNat
theorem onesU_le (c : Nat) : ∀ k, onesU c k ≤ k
  | 0 => Nat.le_refl _
  | k + 1 => by have := onesU_le c k; have : (c.testBit (k + 1)).toNat ≤ 1 := by cases c.testBit (k + 1) <;> decide
                rw [onesU]; omega
theorem odd_val : ∀ c : Fin 256, (oddC (UInt8.ofNat c.val)).toNat = c.val - c.val % 2 + (1 - onesU c.val 7 % 2) := by decide +kernel
theorem odd_is (c : UInt8) : (oddC c).toNat = c.toNat - c.toNat % 2 + (1 - onesU c.toNat 7 % 2) := by
  have h := odd_val ⟨c.toNat, c.toNat_lt⟩
  rw [show UInt8.ofNat (⟨c.toNat, c.toNat_lt⟩ : Fin 256).val = c from UInt8.ofNat_toNat] at h
  exact h
theorem odd_snoc (s : ByteArray) (j : Nat) (h : j < s.size) : bs ((oddL s.data.toList).take (j + 1)) = bs ((oddL s.data.toList).take j) ++ [.int .u8 ((oddC s[j]).toNat : Int)] := by
  have hl : j < (oddL s.data.toList).length := by rw [oddL_len]; simpa using h
  rw [List.take_succ_eq_append_getElem hl, bs_append]
  have e : (oddL s.data.toList)[j] = oddC s[j] := by
    simp only [oddL, List.getElem_map]; rfl
  rw [e]; rfl
theorem wrap8 (n : Nat) (h : n < 256) : IntKind.u8.wrap (n : Int) = (n : Int) := by rw [IntKind.wrap_u8']; omega
theorem wrap64n (n : Nat) (h : n < 256) : IntKind.i64.wrap (n : Int) = (n : Int) := by rw [IntKind.wrap_i64]; omega
end Go.Proofs.YtpifebapodfeaaaGreat.Or
/- The document's Check. -/
namespace Go.Proofs.YtpifebapodfeaaaGreat.Ok
set_option linter.unusedVariables false
open Go.RowKit Pla Cb Tk Sm Wd Nw Bk Eb Et Xo Od Wk
open Rl (cph cph_len)
theorem z_str : (⟨(byW Ck.z64).toArray⟩ : ByteArray) = ⟨#[0, 0, 0, 0, 0, 0, 0, 0]⟩ := by kernel_rfl
theorem three (l : List UInt8) : (⟨l.toArray⟩ : ByteArray).extract 0 3 = ⟨(l.take 3).toArray⟩ := by
  apply ByteArray.ext
  rw [ByteArray.data_extract]
  simp
theorem kind_size (n : Nat) (h : ¬ kindN n = 0) : n = 8 ∨ n = 16 ∨ n = 24 := by
  unfold kindN at h
  split at h
  · omega
  · split at h
    · omega
    · split at h <;> omega
set_option maxRecDepth 100000 in
set_option maxHeartbeats 1600000 in
theorem check_ref0 (s : ByteArray) (hz : kindN s.size = 0) (w : World) :
    Calls Tryz.prog 47 #[.string s] w fun e w' => e = .returned (.tuple #[.string ⟨#[]⟩, .int .i64 30]) ∧ w' = w := by
  have LE := fun u => Rl.length_ref s u
  have el : Rl.lenB s.size = false := by rw [Rl.len_kind, hz]; rfl
  rw [el] at LE
  clear el hz
  go_enter Tryz.func47, Tryz.ntmps47
  go_wp2_with (go_at_call 70; refine (LE _).mono ?_; rintro e x3 ⟨rfl, hx3⟩; rw [hx3])
  exact bodyPost_ret (v := .tuple #[.string ⟨#[]⟩, .int .i64 30]) (by simp [results, Tryz.results47, go_sem]) rfl ⟨rfl, rfl⟩
set_option maxRecDepth 100000 in
set_option maxHeartbeats 1600000 in
theorem check_ref (s : ByteArray) (hz : ¬ kindN s.size = 0) (w : World) :
    Calls Tryz.prog 47 #[.string s] w fun e w' => e = .returned (.tuple #[.string ⟨((byW (enc s.data.toList Ck.z64)).take 3).toArray⟩, .int .i64 0]) ∧ Below w.heap.size w w' := by
  have LE := fun u => Rl.length_ref s u
  have el : Rl.lenB s.size = true := by rw [Rl.len_kind]; simp [hz]
  rw [el] at LE
  have BL := fun u => Ru.block_any s (kind_size _ hz) Ck.z64 rfl false u
  rw [z_str, show cph s.data.toList false Ck.z64 = enc s.data.toList Ck.z64 from rfl] at BL
  rw [← three]
  have el2 : (enc s.data.toList Ck.z64).length = 64 := enc_len _ _
  have hb8 : 3 ≤ (⟨(byW (enc s.data.toList Ck.z64)).toArray⟩ : ByteArray).size := by
    have : (byW (enc s.data.toList Ck.z64)).length = 8 := by simp [byW]
    show 3 ≤ (byW (enc s.data.toList Ck.z64)).toArray.size
    simp [this]
  generalize (⟨(byW (enc s.data.toList Ck.z64)).toArray⟩ : ByteArray) = B at *
  have b1 : (3 : Int) ≤ (B.size : Int) := by omega
  clear el hz el2 hb8
  go_enter Tryz.func47, Tryz.ntmps47
  go_wp2_with (first
    | (go_at_call 70; refine (LE _).mono ?_; rintro e x3 ⟨rfl, hx3⟩; rw [hx3])
    | (go_at_call 65; refine (BL _).mono ?_; rintro e x4 ⟨rfl, h4⟩))
  exact bodyPost_ret (v := .tuple #[.string (B.extract 0 3), .int .i64 0]) (by simp [results, Tryz.results47, go_sem]) rfl ⟨rfl, h4⟩
end Go.Proofs.YtpifebapodfeaaaGreat.Ok
/- Count: the program's and the document's, as one function of three numbers. -/
namespace Go.Proofs.YtpifebapodfeaaaGreat.Cnt
open Go.RowKit
def mx (n : Int) : Int := if n < 0 then 0 else n
def countOf (n b m : Int) : Int := if mx m - mx n < mx b then mx m else mx n + mx b
theorem ret_int {k : IntKind} {a b : Int} (h : a = b) : Ending.returned (.int k a) = .returned (.int k b) := by rw [h]

theorem count_any (n b m : Int) (w : World) (h1 : n ≤ 9223372036854775807) (h2 : b ≤ 9223372036854775807) (h3 : m ≤ 9223372036854775807) :
    Calls Tryz.prog 49 #[.int .i64 n, .int .i64 b, .int .i64 m] w fun e w' => e = .returned (.int .i64 (countOf n b m)) ∧ w' = w := by
  by_cases g1 : n < 0 <;> by_cases g2 : b < 0 <;> by_cases g3 : m < 0
  all_goals
    go_enter Tryz.func49, Tryz.ntmps49
    go_wp2
    all_goals
      go_ret
      exact ⟨ret_int (by simp only [countOf, mx]; (repeat' split) <;> omega), rfl⟩
end Go.Proofs.YtpifebapodfeaaaGreat.Cnt
