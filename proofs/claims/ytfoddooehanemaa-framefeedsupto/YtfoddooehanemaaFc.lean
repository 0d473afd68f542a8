/- Frames: what a header says. -/
import Derived.Test.YtfoddooehanemaaFb
import Derived.Deep.RegionHeld3
namespace Go.Proofs.Ytfoddooehanemaa.Fc
set_option linter.unusedVariables false
set_option linter.unusedSimpArgs false
open Go.RowKit Kb Fa Fb
theorem toNat_lt (b : UInt8) : (b.toNat : Int) < 256 := by have := b.toNat_lt; omega
def numV (o : Option Nat) (n : Int) (ok : Bool) : Prop := (∀ k, o = some k → n = (k : Int) ∧ ok = true) ∧ (o = none → ok = false)
theorem numV_dec (ds : List Nat) : numV (dec ds 0) (decN ds 0 : Int) (decB ds 0) := by
  refine ⟨fun k hk => ?_, fun hk => ?_⟩
  · rw [decN, decB, hk]; exact ⟨rfl, rfl⟩
  · rw [decB, hk]; rfl
theorem and15 (x : Nat) (h : x < 256) : bits .and .u8 (x : Int) 15 = ((x % 16 : Nat) : Int) := by
  have := u8_and_nat x 15 h (by decide)
  rw [show x &&& 15 = x % 16 from Nat.and_two_pow_sub_one_eq_mod x 4] at this
  exact this
theorem below_drewN {B : Nat} {a w : World} (h : Below B a w) : ∀ n, Below B a (w.drewN n)
  | 0 => h
  | n + 1 => (below_drewN h n).drew
theorem decimal_new (d0 d1 d2 d3 : Nat) (h0 : d0 < 256) (h1 : d1 < 256) (h2 : d2 < 256) (h3 : d3 < 256) (x : World) (B : Nat) (hB : x.heap.size = B) :
    Calls Try.prog 75 #[.slice (some ⟨B, 0, none⟩) 4 4] (x.alloc (.cells #[.int .u8 (d0 : Int), .int .u8 (d1 : Int), .int .u8 (d2 : Int), .int .u8 (d3 : Int)] 5)) fun e w' => e = .returned (.tuple #[.int .i64 (decN [d0, d1, d2, d3] 0 : Int), .bool (decB [d0, d1, d2, d3] 0)]) ∧ w' = x.alloc (.cells #[.int .u8 (d0 : Int), .int .u8 (d1 : Int), .int .u8 (d2 : Int), .int .u8 (d3 : Int)] 5) := by
  subst hB
  have h := h1_0 x (.cells #[.int .u8 (d0 : Int), .int .u8 (d1 : Int), .int .u8 (d2 : Int), .int .u8 (d3 : Int)] 5)
  refine decimal_any d0 d1 d2 d3 h0 h1 h2 h3 x.heap.size 4 _ ?_ ?_ ?_ ?_ <;> (unfold World.cell?; rw [h]; rfl)
theorem decimal_z (d0 d1 d2 d3 : Nat) (h0 : d0 < 256) (h1 : d1 < 256) (h2 : d2 < 256) (h3 : d3 < 256) (x : World) (B : Nat) (z0 z1 z2 z3 : Int) (hB : x.heap.size = B) (e0 : z0 = (d0 : Int)) (e1 : z1 = (d1 : Int)) (e2 : z2 = (d2 : Int)) (e3 : z3 = (d3 : Int)) :
    Calls Try.prog 75 #[.slice (some ⟨B, 0, none⟩) 4 4] (x.alloc (.cells #[.int .u8 z0, .int .u8 z1, .int .u8 z2, .int .u8 z3] 5)) fun e w' => e = .returned (.tuple #[.int .i64 (decN [d0, d1, d2, d3] 0 : Int), .bool (decB [d0, d1, d2, d3] 0)]) ∧ w' = x.alloc (.cells #[.int .u8 z0, .int .u8 z1, .int .u8 z2, .int .u8 z3] 5) := by
  subst e0 e1 e2 e3
  exact decimal_new d0 d1 d2 d3 h0 h1 h2 h3 x B hB
theorem sub48 (x : Nat) (h : x < 256) : IntKind.u8.wrap ((x : Int) - 48) = (((x + 208) % 256 : Nat) : Int) := by
  rw [IntKind.wrap_u8]; omega
set_option maxRecDepth 100000 in
set_option maxHeartbeats 3200000 in
theorem number_two (a b c d : UInt8) (g C : Nat) (w : World)
    (c0 : w.cell? ⟨g, 2, none⟩ = some (.int .u8 (a.toNat : Int))) (c1 : w.cell? ⟨g, 3, none⟩ = some (.int .u8 (b.toNat : Int))) (c2 : w.cell? ⟨g, 4, none⟩ = some (.int .u8 (c.toNat : Int))) (c3 : w.cell? ⟨g, 5, none⟩ = some (.int .u8 (d.toNat : Int))) :
    Calls Try.prog 64 #[.int .i64 1, .slice (some ⟨g, 2, none⟩) 4 C] w fun e w' => ∃ n ok, e = .returned (.tuple #[.int .i64 n, .bool ok]) ∧ numV (num 1 [a, b, c, d]) n ok ∧ Below w.heap.size w w' := by
  have u0 := or_low a.toNat b.toNat a.toNat_lt b.toNat_lt
  have HN : Hid (num 1 [a, b, c, d] = some (256 * a.toNat + b.toNat)) := (rfl : num 1 [a, b, c, d] = some (256 * a.toNat + b.toNat))
  have ha := toNat_lt a
  have hb := toNat_lt b
  generalize num 1 [a, b, c, d] = Z at *
  go_enter Try.func64, Try.ntmps64
  go_wp2
  go_quiet (fail)
  go_wp2
  go_ret2
  refine ⟨_, _, rfl, ⟨fun k hk => ?_, fun hk => ?_⟩, below_drewN (Below.refl _ _) _⟩
  · rw [HN.out] at hk; cases hk; exact ⟨by simp, rfl⟩
  · rw [HN.out] at hk; cases hk
set_option maxRecDepth 100000 in
set_option maxHeartbeats 3200000 in
theorem number_four (a b c d : UInt8) (g C : Nat) (w : World) (hg : g < w.heap.size)
    (c0 : w.cell? ⟨g, 2, none⟩ = some (.int .u8 (a.toNat : Int))) (c1 : w.cell? ⟨g, 3, none⟩ = some (.int .u8 (b.toNat : Int))) (c2 : w.cell? ⟨g, 4, none⟩ = some (.int .u8 (c.toNat : Int))) (c3 : w.cell? ⟨g, 5, none⟩ = some (.int .u8 (d.toNat : Int))) :
    Calls Try.prog 64 #[.int .i64 2, .slice (some ⟨g, 2, none⟩) 4 C] w fun e w' => ∃ n ok, e = .returned (.tuple #[.int .i64 n, .bool ok]) ∧ numV (num 2 [a, b, c, d]) n ok ∧ Below w.heap.size w w' := by
  have u0 := or_low a.toNat b.toNat a.toNat_lt b.toNat_lt
  have ha := toNat_lt a
  have hb := toNat_lt b
  have hc := toNat_lt c
  have hd := toNat_lt d
  have e0 := sub48 a.toNat a.toNat_lt
  have e1 := sub48 b.toNat b.toNat_lt
  have e2 := sub48 c.toNat c.toNat_lt
  have e3 := sub48 d.toNat d.toNat_lt
  have HN : Hid (numV (num 2 [a, b, c, d]) (decN [(a.toNat + 208) % 256, (b.toNat + 208) % 256, (c.toNat + 208) % 256, (d.toNat + 208) % 256] 0 : Int) (decB [(a.toNat + 208) % 256, (b.toNat + 208) % 256, (c.toNat + 208) % 256, (d.toNat + 208) % 256] 0)) := numV_dec _
  have k0 : (a.toNat + 208) % 256 < 256 := Nat.mod_lt _ (by decide)
  have k1 : (b.toNat + 208) % 256 < 256 := Nat.mod_lt _ (by decide)
  have k2 : (c.toNat + 208) % 256 < 256 := Nat.mod_lt _ (by decide)
  have k3 : (d.toNat + 208) % 256 < 256 := Nat.mod_lt _ (by decide)
  generalize num 2 [a, b, c, d] = Z at *
  generalize (a.toNat + 208) % 256 = d0 at *
  generalize (b.toNat + 208) % 256 = d1 at *
  generalize (c.toNat + 208) % 256 = d2 at *
  generalize (d.toNat + 208) % 256 = d3 at *
  have D := fun x B hB => decimal_new d0 d1 d2 d3 k0 k1 k2 k3 x B hB
  generalize (decN [d0, d1, d2, d3] 0 : Int) = rn at *
  generalize decB [d0, d1, d2, d3] 0 = rb at *
  go_enter Try.func64, Try.ntmps64
  go_wp2
  go_quiet (fail)
  go_wp2
  go_region_held3 (fun w' => w'.cell? ⟨g, 2, none⟩ = some (.int .u8 (a.toNat : Int)) ∧ w'.cell? ⟨g, 3, none⟩ = some (.int .u8 (b.toNat : Int)) ∧ w'.cell? ⟨g, 4, none⟩ = some (.int .u8 (c.toNat : Int)) ∧ w'.cell? ⟨g, 5, none⟩ = some (.int .u8 (d.toNat : Int))) (refine ⟨?_, ?_, ?_, ?_⟩ <;> first | assumption | (go_keep; done))
    (first | (go_at_call 75; refine (D _ _ (by simp)).mono ?_; rintro e y ⟨rfl, rfl⟩))
  go_wp2
  go_ret2
  exact ⟨_, _, rfl, HN.out, (below_drewN (Below.refl _ _) _).alloc (by simp) _⟩
set_option maxRecDepth 100000 in
set_option maxHeartbeats 3200000 in
theorem number_bcd (a b c d : UInt8) (g C : Nat) (w : World) (hg : g < w.heap.size)
    (c0 : w.cell? ⟨g, 2, none⟩ = some (.int .u8 (a.toNat : Int))) (c1 : w.cell? ⟨g, 3, none⟩ = some (.int .u8 (b.toNat : Int))) (c2 : w.cell? ⟨g, 4, none⟩ = some (.int .u8 (c.toNat : Int))) (c3 : w.cell? ⟨g, 5, none⟩ = some (.int .u8 (d.toNat : Int))) :
    Calls Try.prog 64 #[.int .i64 3, .slice (some ⟨g, 2, none⟩) 4 C] w fun e w' => ∃ n ok, e = .returned (.tuple #[.int .i64 n, .bool ok]) ∧ numV (num 3 [a, b, c, d]) n ok ∧ Below w.heap.size w w' := by
  have u0 := or_low a.toNat b.toNat a.toNat_lt b.toNat_lt
  have ha := toNat_lt a
  have hb := toNat_lt b
  have e1 := and15 a.toNat a.toNat_lt
  have e3 := and15 b.toNat b.toNat_lt
  have la := a.toNat_lt
  have lb := b.toNat_lt
  have HN : Hid (numV (num 3 [a, b, c, d]) (decN [a.toNat / 16, a.toNat % 16, b.toNat / 16, b.toNat % 16] 0 : Int) (decB [a.toNat / 16, a.toNat % 16, b.toNat / 16, b.toNat % 16] 0)) := numV_dec _
  have D := fun x B z0 z1 z2 z3 => decimal_z (a.toNat / 16) (a.toNat % 16) (b.toNat / 16) (b.toNat % 16) (by omega) (by omega) (by omega) (by omega) x B z0 z1 z2 z3
  generalize num 3 [a, b, c, d] = Z at *
  generalize (decN [a.toNat / 16, a.toNat % 16, b.toNat / 16, b.toNat % 16] 0 : Int) = rn at *
  generalize decB [a.toNat / 16, a.toNat % 16, b.toNat / 16, b.toNat % 16] 0 = rb at *
  go_enter Try.func64, Try.ntmps64
  go_wp2
  go_quiet (fail)
  go_wp2
  go_region_held3 (fun w' => w'.cell? ⟨g, 2, none⟩ = some (.int .u8 (a.toNat : Int)) ∧ w'.cell? ⟨g, 3, none⟩ = some (.int .u8 (b.toNat : Int)) ∧ w'.cell? ⟨g, 4, none⟩ = some (.int .u8 (c.toNat : Int)) ∧ w'.cell? ⟨g, 5, none⟩ = some (.int .u8 (d.toNat : Int))) (refine ⟨?_, ?_, ?_, ?_⟩ <;> first | assumption | (go_keep; done))
    (first | (go_at_call 75; refine (D _ _ _ _ _ _ (by simp) (by first | rfl | omega | simp) (by first | rfl | omega | simp) (by first | rfl | omega | simp) (by first | rfl | omega | simp)).mono ?_; rintro e y ⟨rfl, rfl⟩))
  go_wp2
  go_ret2
  exact ⟨_, _, rfl, HN.out, (below_drewN (Below.refl _ _) _).alloc (by simp) _⟩
set_option maxRecDepth 100000 in
set_option maxHeartbeats 3200000 in
theorem number_whole (a b c d : UInt8) (g C : Nat) (w : World) (hg : g < w.heap.size)
    (c0 : w.cell? ⟨g, 2, none⟩ = some (.int .u8 (a.toNat : Int))) (c1 : w.cell? ⟨g, 3, none⟩ = some (.int .u8 (b.toNat : Int))) (c2 : w.cell? ⟨g, 4, none⟩ = some (.int .u8 (c.toNat : Int))) (c3 : w.cell? ⟨g, 5, none⟩ = some (.int .u8 (d.toNat : Int))) :
    Calls Try.prog 64 #[.int .i64 4, .slice (some ⟨g, 2, none⟩) 4 C] w fun e w' => ∃ n ok, e = .returned (.tuple #[.int .i64 n, .bool ok]) ∧ numV (num 4 [a, b, c, d]) n ok ∧ Below w.heap.size w w' := by
  have u0 := or_low a.toNat b.toNat a.toNat_lt b.toNat_lt
  have HN : Hid (num 4 [a, b, c, d] = if 256 * a.toNat + b.toNat < 2 then none else some (256 * a.toNat + b.toNat - 2)) := (rfl : num 4 [a, b, c, d] = if 256 * a.toNat + b.toNat < 2 then none else some (256 * a.toNat + b.toNat - 2))
  have ha := toNat_lt a
  have hb := toNat_lt b
  generalize num 4 [a, b, c, d] = Z at *
  go_enter Try.func64, Try.ntmps64
  go_wp2
  go_quiet (fail)
  go_wp2
  go_ret2
  refine ⟨_, _, rfl, ⟨fun k hk => ?_, fun hk => ?_⟩, below_drewN (Below.refl _ _) _⟩
  · rw [HN.out] at hk
    by_cases h2 : 256 * a.toNat + b.toNat < 2
    · rw [if_pos h2] at hk; cases hk
    · rw [if_neg h2] at hk; cases hk
      refine ⟨by omega, by simp; omega⟩
  · rw [HN.out] at hk
    by_cases h2 : 256 * a.toNat + b.toNat < 2
    · simp; omega
    · rw [if_neg h2] at hk; cases hk
theorem number_any (h : Nat) (h1 : 1 ≤ h) (h4 : h ≤ 4) (a b c d : UInt8) (g C : Nat) (w : World) (hg : g < w.heap.size)
    (c0 : w.cell? ⟨g, 2, none⟩ = some (.int .u8 (a.toNat : Int))) (c1 : w.cell? ⟨g, 3, none⟩ = some (.int .u8 (b.toNat : Int))) (c2 : w.cell? ⟨g, 4, none⟩ = some (.int .u8 (c.toNat : Int))) (c3 : w.cell? ⟨g, 5, none⟩ = some (.int .u8 (d.toNat : Int))) :
    Calls Try.prog 64 #[.int .i64 (h : Int), .slice (some ⟨g, 2, none⟩) 4 C] w fun e w' => ∃ n ok, e = .returned (.tuple #[.int .i64 n, .bool ok]) ∧ numV (num h [a, b, c, d]) n ok ∧ Below w.heap.size w w' := by
  match h, h1, h4 with
  | 1, _, _ => exact number_two a b c d g C w c0 c1 c2 c3
  | 2, _, _ => exact number_four a b c d g C w hg c0 c1 c2 c3
  | 3, _, _ => exact number_bcd a b c d g C w hg c0 c1 c2 c3
  | 4, _, _ => exact number_whole a b c d g C w hg c0 c1 c2 c3
def tellO (m : Nat) : Option Nat → Nat × Nat
  | none => (0, 140)
  | some n => if m < n then (0, 141) else (n, 0)
theorem told_any (h m : Nat) (h1 : 1 ≤ h) (h4 : h ≤ 4) (hm : m ≤ 9999) (a b c d : UInt8) (g C : Nat) (w : World) (hg : g < w.heap.size)
    (c0 : w.cell? ⟨g, 2, none⟩ = some (.int .u8 (a.toNat : Int))) (c1 : w.cell? ⟨g, 3, none⟩ = some (.int .u8 (b.toNat : Int))) (c2 : w.cell? ⟨g, 4, none⟩ = some (.int .u8 (c.toNat : Int))) (c3 : w.cell? ⟨g, 5, none⟩ = some (.int .u8 (d.toNat : Int))) :
    Calls Try.prog 46 #[.int .i64 (h : Int), .int .i64 (m : Int), .slice (some ⟨g, 2, none⟩) 4 C] w fun e w' => e = .returned (.tuple #[.int .i64 ((tell h m [a, b, c, d]).1 : Int), .int .i64 ((tell h m [a, b, c, d]).2 : Int)]) ∧ Below w.heap.size w w' := by
  have p := number_any h h1 h4 a b c d g C w hg c0 c1 c2 c3
  have ht : tell h m [a, b, c, d] = tellO m (num h [a, b, c, d]) := rfl
  generalize tell h m [a, b, c, d] = T at *
  generalize num h [a, b, c, d] = Z at *
  have HT : Hid (T = tellO m Z) := ht
  clear ht
  go_enter Try.func46, Try.ntmps46
  go_wp2_with fail
  refine p.mono ?_
  rintro e x ⟨n, ok, rfl, ⟨hv1, hv2⟩, hx⟩
  have HX : Hid (Below w.heap.size w x) := hx
  clear hx p
  cases Z with
  | none =>
    obtain rfl := hv2 rfl
    clear hv1 hv2
    go_wp2_with fail
    go_ret2
    exact ⟨by rw [HT.out]; rfl, HX.out⟩
  | some k =>
    obtain ⟨rfl, rfl⟩ := hv1 k rfl
    clear hv1 hv2
    by_cases hk : m < k
    · have q : (m : Int) < (k : Int) := by omega
      have HT2 : Hid (T = (0, 141)) := by show _ = _; rw [HT.out]; simp [tellO, hk]
      go_wp2_with fail
      go_ret2
      exact ⟨by rw [HT2.out]; rfl, HX.out⟩
    · have q : (k : Int) ≤ (m : Int) := by omega
      have HT2 : Hid (T = (k, 0)) := by show _ = _; rw [HT.out]; simp [tellO, hk]
      go_wp2_with fail
      go_ret2
      exact ⟨by rw [HT2.out]; rfl, HX.out⟩
end Go.Proofs.Ytfoddooehanemaa.Fc
