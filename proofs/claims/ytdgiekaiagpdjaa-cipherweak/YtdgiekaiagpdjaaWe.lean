/- What CipherWeak asks, out of the contracts. -/
import Derived.Test.YtdgiekaiagpdjaaPb
import Derived.Test.YtdgiekaiagpdjaaFi
import Derived.Test.YtdgiekaiagpdjaaPick
namespace Go.Proofs.Ytdgiekaiagpdjaa.We
set_option linter.unusedVariables false
open Go.RowKit Pla Cb Wd Nw Bk Eb Et Pm Pc Bl Un Ul Lo Od Wk Pa
def wks : Nat → List UInt8
  | 0 => k1
  | 1 => k2
  | 2 => k3
  | _ => k4
theorem wks_len (q : Nat) : (wks q).length = 8 := by
  match q with
  | 0 => rfl
  | 1 => rfl
  | 2 => rfl
  | _ + 3 => rfl
theorem wks_mem (q : Nat) : wks q ∈ ([[1, 1, 1, 1, 1, 1, 1, 1], [254, 254, 254, 254, 254, 254, 254, 254], [224, 224, 224, 224, 241, 241, 241, 241], [31, 31, 31, 31, 14, 14, 14, 14]] : List (List UInt8)) := by
  match q with
  | 0 => exact .head _
  | 1 => exact .tail _ (.head _)
  | 2 => exact .tail _ (.tail _ (.head _))
  | _ + 3 => exact .tail _ (.tail _ (.tail _ (.head _)))
theorem wks_rev (q : Nat) : (sched (bitsS (wks q))).reverse = sched (bitsS (wks q)) := wk_rev _ (wks_mem q)
theorem odd_wks (q : Nat) : oddL (wks q) = wks q := by
  match q with
  | 0 => decide +kernel
  | 1 => decide +kernel
  | 2 => decide +kernel
  | _ + 3 => exact (by decide +kernel : oddL k4 = k4)
theorem isW_wks (q : Nat) : isW ⟨(wks q).toArray⟩ = true := by
  match q with
  | 0 => decide +kernel
  | 1 => decide +kernel
  | 2 => decide +kernel
  | _ + 3 => exact (by decide +kernel : isW ⟨k4.toArray⟩ = true)
theorem part_weak (s : ByteArray) (i q : Nat) (hl : (pt s.data.toList i).length = 8) (h : Alk (pt s.data.toList i) (wks q)) : isW (oddP s i) = true := by
  rw [oddP, oddL_alike _ (wks q) (by rw [hl, wks_len]) h, odd_wks]
  exact isW_wks q
theorem key_weak (k : ByteArray) (q : Nat) (hk : k.size = 8) (h : Alk k.data.toList (wks q)) : wkU k (kindN k.size) = true := by
  rw [show kindN k.size = 1 by rw [hk]; rfl]
  have hl : k.data.toList.length = 8 := by rw [len_size, hk]
  refine wkU_mono k 0 1 (by decide) (part_weak k 0 q ?_ ?_)
  · rw [pt_one _ hl, hl]
  · rw [pt_one _ hl]; exact h
def longB (L k : ByteArray) (n : Nat) : ByteArray := L.extract 0 n ++ k ++ L.extract (n + 8) L.size
theorem long_size (L k : ByteArray) (p : Nat) (hL : L.size = 24) (hk : k.size = 8) (hp : p < 3) : (longB L k (8 * p)).size = 24 := by
  rw [longB, ByteArray.size_append, ByteArray.size_append, ByteArray.size_extract, ByteArray.size_extract, hL, hk]; omega
theorem long_pt (L k : ByteArray) (p : Nat) (hL : L.size = 24) (hk : k.size = 8) (hp : p < 3) : pt (longB L k (8 * p)).data.toList p = k.data.toList := by
  have hl : k.data.toList.length = 8 := by rw [len_size, hk]
  have hLl : L.data.toList.length = 24 := by rw [len_size, hL]
  have d : (longB L k (8 * p)).data.toList = L.data.toList.take (8 * p) ++ (k.data.toList ++ (L.extract (8 * p + 8) L.size).data.toList) := by simp [longB]
  have l1 : (L.data.toList.take (8 * p)).length = 8 * p := by rw [List.length_take]; omega
  rw [pt, d, List.drop_append, l1, Nat.sub_self, List.drop_zero, List.drop_of_length_le (by omega), List.nil_append, List.take_append, hl, Nat.sub_self, List.take_zero, List.append_nil, List.take_of_length_le (by omega)]
theorem long_weak (L k : ByteArray) (p q : Nat) (hL : L.size = 24) (hk : k.size = 8) (hp : p < 3) (h : Alk k.data.toList (wks q)) : wkU (longB L k (8 * p)) (kindN (longB L k (8 * p)).size) = true := by
  rw [long_size L k p hL hk hp, show kindN 24 = 3 from rfl]
  refine wkU_mono _ p 3 hp (part_weak _ p q ?_ ?_)
  · rw [long_pt L k p hL hk hp, len_size, hk]
  · rw [long_pt L k p hL hk hp]; exact h
theorem other_not : wkU ⟨#[16, 32, 97, 98, 99, 48, 64, 120]⟩ (kindN (ByteArray.mk #[16, 32, 97, 98, 99, 48, 64, 120]).size) = false := by decide +kernel
theorem short_not (s : ByteArray) (h : s.size = 23) : wkU s (kindN s.size) = false := by rw [h]; rfl
/-- what is encrypted twice is as it was -/
theorem twice (k t : ByteArray) (q N : Nat) (hk : k.size = 8) (h : Alk k.data.toList (wks q)) (hN : t.size = 8 * N) (hN2 : N ≤ 100) : ∃ X : ByteArray, X.size = t.size ∧
    (∀ u, Calls Try.prog 7 #[.string k, .string t] u (RetS X u)) ∧ (∀ u, Calls Try.prog 7 #[.string k, .string X] u (RetS t u)) := by
  have hl : k.data.toList.length = 8 := by rw [len_size, hk]
  have htl : t.data.toList.length = 8 * N := by rw [len_size, hN]
  have sz : (ByteArray.mk (mapB (enc k.data.toList) t.data.toList).toArray).size = 8 * N := by
    show (mapB _ _).toArray.size = _
    rw [List.size_toArray, mapB_len _ _ N htl]
  refine ⟨⟨(mapB (enc k.data.toList) t.data.toList).toArray⟩, by rw [sz, hN], fun u => under_any k t 1 N (kind8 k hk) (by decide) (by decide) hN (by omega) u, fun u => ?_⟩
  have hh := under_any k ⟨(mapB (enc k.data.toList) t.data.toList).toArray⟩ 1 N (kind8 k hk) (by decide) (by decide) sz (by omega) u
  rw [show (ByteArray.mk (mapB (enc k.data.toList) t.data.toList).toArray).data.toList = mapB (enc k.data.toList) t.data.toList by simp, map_back (enc k.data.toList) (enc k.data.toList) (enc_len _) (fun x hx => enc_twice _ (wks q) hl (wks_rev q) h x hx) _ N htl, mk_eq] at hh
  exact hh
theorem shape {w : World} {v : Value} {z : Nat → Bool} {n : Nat} (h : Sb.Lies w v z n) : ∃ (o : Option Addr) (cap : Nat), v = .slice o n cap ∧ n ≤ 9223372036854775807 ∧ ∀ i, i < n → ∃ a : Addr, o = some a ∧ w.cell? (a.add i) = some (.bool (z i)) := by
  rcases h with ⟨rfl, rfl⟩ | ⟨a, cap, rfl, h1, h2, hc⟩
  · exact ⟨Option.none, 0, rfl, Nat.zero_le _, fun i hi => absurd hi (Nat.not_lt_zero _)⟩
  · exact ⟨some a, cap, rfl, by unfold maxLen at h2; omega, fun i hi => ⟨a, rfl, hc i hi⟩⟩
theorem wf_i64 {a : Int} (h : (Lit.int .i64 a).wf = true) : -9223372036854775808 ≤ a ∧ a ≤ 9223372036854775807 := by
  simp [Lit.wf, IntKind.min, IntKind.max, IntKind.signed, IntKind.bits] at h; omega
theorem pick_nat (a : Int) (h : (Lit.int .i64 a).wf = true) (n : Nat) (hn : 0 < n) (hn2 : n ≤ 1000000) : ∃ p : Nat, p < n ∧ ∀ y, Calls Try.prog 5 #[.int .i64 a, .int .i64 (n : Int)] y fun e w' => e = .returned (.int .i64 (p : Int)) ∧ w' = y := by
  have hb := wf_i64 h
  have h1 := Pick.pick_lo a (n : Int) (by omega)
  have h2 := Pick.pick_hi a (n : Int) (by omega)
  refine ⟨(Pick.pickOf a (n : Int)).toNat, by omega, fun y => ?_⟩
  have := Pick.pick_any a (n : Int) y (by omega) (by omega) (by omega) (by omega)
  rw [show Pick.pickOf a (n : Int) = (((Pick.pickOf a (n : Int)).toNat : Nat) : Int) by omega] at this
  exact this
theorem lit_at (w : World) (g q : Nat) (t : TypeId) (hq : q < 4) (h : w.heap[g]? = some (.cells #[.string ⟨#[1, 1, 1, 1, 1, 1, 1, 1]⟩, .string ⟨#[254, 254, 254, 254, 254, 254, 254, 254]⟩, .string ⟨#[224, 224, 224, 224, 241, 241, 241, 241]⟩, .string ⟨#[31, 31, 31, 31, 14, 14, 14, 14]⟩] t)) : w.cell? ⟨g, q, Option.none⟩ = some (.string ⟨(wks q).toArray⟩) := by
  match q, hq with
  | 0, _ => rw [cell_of_row w g 0 _ t _ h]; rfl
  | 1, _ => rw [cell_of_row w g 1 _ t _ h]; rfl
  | 2, _ => rw [cell_of_row w g 2 _ t _ h]; rfl
  | 3, _ => rw [cell_of_row w g 3 _ t _ h]; rfl
end Go.Proofs.Ytdgiekaiagpdjaa.We
