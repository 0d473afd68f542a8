/- Frames: what was wrapped is found. -/
import Derived.Test.YtfoddooehanemaaFv
namespace Go.Proofs.Ytfoddooehanemaa.Fw
set_option linter.unusedVariables false
set_option linter.unusedSimpArgs false
open Go.RowKit Lib0 Kb Fa Fb Fc Fm Fe Ff Fg Fh Fj Fk Fu Fv
def sg (h : Nat) : List UInt8 := if h = 2 then [48, 48, 48, 48] else if h = 4 then [0, 2] else [0, 0]
theorem of_lt (d : Nat) (h : d < 256) : (UInt8.ofNat d).toNat = d := UInt8.toNat_ofNat_of_lt' (by simpa using h)
theorem dec4 (d0 d1 d2 d3 : Nat) (h0 : d0 ≤ 9) (h1 : d1 ≤ 9) (h2 : d2 ≤ 9) (h3 : d3 ≤ 9) : dec [d0, d1, d2, d3] 0 = some (((d0 * 10 + d1) * 10 + d2) * 10 + d3) := by
  simp only [dec]
  rw [if_neg (by omega), if_neg (by omega), if_neg (by omega), if_neg (by omega)]
  congr 1
  omega
theorem hb_len (h n : Nat) (h1 : 1 ≤ h) (h4 : h ≤ 4) : (hb h n).length = wid h := by
  obtain rfl | rfl | rfl | rfl : h = 1 ∨ h = 2 ∨ h = 3 ∨ h = 4 := by omega
  all_goals rfl
theorem num_hb (h n : Nat) (h1 : 1 ≤ h) (h4 : h ≤ 4) (hn : n ≤ 9999) : num h (hb h n) = some n := by
  obtain rfl | rfl | rfl | rfl : h = 1 ∨ h = 2 ∨ h = 3 ∨ h = 4 := by omega
  · show some (256 * (UInt8.ofNat (n / 256)).toNat + (UInt8.ofNat (n % 256)).toNat) = some n
    rw [of_lt _ (by omega), of_lt _ (by omega)]
    congr 1; omega
  · show dec [((UInt8.ofNat (48 + n / 1000 % 10)).toNat + 208) % 256, ((UInt8.ofNat (48 + n / 100 % 10)).toNat + 208) % 256, ((UInt8.ofNat (48 + n / 10 % 10)).toNat + 208) % 256, ((UInt8.ofNat (48 + n / 1 % 10)).toNat + 208) % 256] 0 = some n
    rw [of_lt _ (by omega), of_lt _ (by omega), of_lt _ (by omega), of_lt _ (by omega), dec4 _ _ _ _ (by omega) (by omega) (by omega) (by omega)]
    congr 1; omega
  · show dec [(UInt8.ofNat (16 * (n / 1000 % 10) + n / 100 % 10)).toNat / 16, (UInt8.ofNat (16 * (n / 1000 % 10) + n / 100 % 10)).toNat % 16, (UInt8.ofNat (16 * (n / 10 % 10) + n / 1 % 10)).toNat / 16, (UInt8.ofNat (16 * (n / 10 % 10) + n / 1 % 10)).toNat % 16] 0 = some n
    rw [of_lt _ (by omega), of_lt _ (by omega), dec4 _ _ _ _ (by omega) (by omega) (by omega) (by omega)]
    congr 1; omega
  · show (if 256 * (UInt8.ofNat ((n + 2) / 256)).toNat + (UInt8.ofNat ((n + 2) % 256)).toNat < 2 then none else some (256 * (UInt8.ofNat ((n + 2) / 256)).toNat + (UInt8.ofNat ((n + 2) % 256)).toNat - 2)) = some n
    rw [of_lt _ (by omega), of_lt _ (by omega), if_neg (by omega)]
    congr 1; omega
theorem tell_hb (h m n : Nat) (h1 : 1 ≤ h) (h4 : h ≤ 4) (hn : n ≤ m) (hm : m ≤ 9999) : tell h m (hb h n) = (n, 0) := by
  unfold tell
  rw [num_hb h n h1 h4 (by omega)]
  simp only
  rw [if_neg (by omega)]
theorem run_frame (h m : Nat) (h1 : 1 ≤ h) (h4 : h ≤ 4) (hm : m ≤ 9999) (i : Nat) (o : List (List UInt8)) (l : List UInt8) (hl : 1 ≤ l.length) (hlm : l.length ≤ m) : run h m ⟨.hdr [], i, o⟩ (hb h l.length ++ l) = ⟨.hdr [], i, o ++ [l]⟩ := by
  rw [run_append, run_hdr_full h m i o (hb h l.length) [] (by simp [hb_len h _ h1 h4]) (wid_pos h)]
  rw [List.nil_append]
  unfold opn
  rw [tell_hb h m _ h1 h4 hlm hm]
  simp only
  rw [if_neg (by simp), if_neg (by omega)]
  rw [run_bod_full h m l.length i o l [] (by simp) (by simp; omega)]
  simp
theorem run_sign (h m : Nat) (h1 : 1 ≤ h) (h4 : h ≤ 4) (i : Nat) (o : List (List UInt8)) : run h m ⟨.hdr [], i, o⟩ (sg h) = ⟨.hdr [], i + 1, o⟩ := by
  have ht : tell h m (sg h) = (0, 0) ∧ (sg h).length = wid h := by
    obtain rfl | rfl | rfl | rfl : h = 1 ∨ h = 2 ∨ h = 3 ∨ h = 4 := by omega
    all_goals exact ⟨by unfold tell; rfl, rfl⟩
  rw [run_hdr_full h m i o (sg h) [] (by simp [ht.2]) (wid_pos h)]
  rw [List.nil_append]
  unfold opn
  rw [ht.1]
  simp
theorem sign_any (h : Nat) (h1 : 1 ≤ h) (h4 : h ≤ 4) (w : World) : Calls Try.prog 32 #[.int .i64 (h : Int)] w fun e w' => e = .returned (.string ⟨(sg h).toArray⟩) ∧ w' = w := by
  obtain rfl | rfl | rfl | rfl : h = 1 ∨ h = 2 ∨ h = 3 ∨ h = 4 := by omega
  all_goals
    go_enter Try.func32, Try.ntmps32
    go_wp2
    go_ret
    exact ⟨rfl, rfl⟩
theorem sg_len (h : Nat) : (sg h).length ≤ 4 := by
  unfold sg; split <;> (try split) <;> simp
theorem cat_list (a b : ByteArray) : (a ++ b).data.toList = a.data.toList ++ b.data.toList := by simp [ByteArray.data_append]
end Go.Proofs.Ytfoddooehanemaa.Fw
