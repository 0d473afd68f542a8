/- RouteTries: several are put. -/
import Derived.Test.YtecboaocoobjgaaGreatDoorWp
namespace Go.Proofs.YtecboaocoobjgaaGreatDoor.Wm
set_option linter.unusedVariables false
set_option linter.unusedSimpArgs false
open Go.RowKit Go.Shelf Lib0 Kb Rp Rw Rs Li Mj Tj Kq Sr Ra Rj Da Db Dc Dd De Wd Ws Wi Wk Wn Wo
attribute [local go_sem] Oper.semAt_some
theorem conv3 (x : World) (g : Nat) (a b c : Int) (hg : x.heap[g]? = some (.cells #[.int .u8 a, .int .u8 b, .int .u8 c] 5)) (ha : 0 ≤ a ∧ a < 256) (hb : 0 ≤ b ∧ b < 256) (hc : 0 ≤ c ∧ c < 256) : ∃ s : ByteArray, s.size = 3 ∧
    (convert 90 9 (.slice (some ⟨g, 0, none⟩) 3 3)).run Tryz.prog x = .ok (.string s) x := by
  refine ⟨⟨[UInt8.ofNat a.toNat, UInt8.ofNat b.toNat, UInt8.ofNat c.toNat].toArray⟩, rfl, ?_⟩
  refine run_convert_bytes_back (P := Tryz.prog) x 90 9 5 ⟨g, 0, none⟩ 3 [UInt8.ofNat a.toNat, UInt8.ofNat b.toNat, UInt8.ofNat c.toNat] Tryz.underlying90 Tryz.underlying5 Tryz.underlying9 (fun j hj => ?_)
  have : j = 0 ∨ j = 1 ∨ j = 2 := by simp at hj; omega
  have tn : ∀ x : Int, 0 ≤ x ∧ x < 256 → ((UInt8.ofNat x.toNat).toNat : Int) = x := fun x h => by simp; omega
  rcases this with rfl | rfl | rfl
  · show World.cell? _ _ = some (.int .u8 ((UInt8.ofNat a.toNat).toNat : Int))
    rw [tn a ha]; simp [World.cell?, Addr.add, hg]
  · show World.cell? _ _ = some (.int .u8 ((UInt8.ofNat b.toNat).toNat : Int))
    rw [tn b hb]; simp [World.cell?, Addr.add, hg]
  · show World.cell? _ _ = some (.int .u8 ((UInt8.ofNat c.toNat).toNat : Int))
    rw [tn c hc]; simp [World.cell?, Addr.add, hg]
set_option maxRecDepth 100000 in
set_option maxHeartbeats 3200000 in
theorem many_any {w y : World} {X : List Nat} {W : Nat} {t r u : Nat → Nat} {L : Nat → LT} (h : Wd w y X W t r u L) (o : Stp) (k : Nat) (hk : k < 2) (hp : o.pr.size + 3 ≤ maxLen) (hL : ∀ j, (L j).length ≤ 800000) (v0 : -9223372036854775808 ≤ o.v) (v1 : o.v ≤ 9223372036854775807) :
    Calls Tryz.prog 21 #[.pointer (some ⟨W, 0, none⟩), .int .i64 (k : Int), .agg o.cs] y fun e y' => e = .returned (.bool true) ∧ ∃ L', Wd w y' X W t r u L' ∧ ∀ j, (L' j).length ≤ (L j).length + 300 := by
  obtain ⟨kind, on, pr, v, leave, inn, oth⟩ := o
  obtain ⟨pk, hpk, PK⟩ := pick_k v 300 w v0 v1 (by decide) (by decide)
  dsimp only at hp v0 v1
  have HP := hid hp
  clear hp
  simp only [Stp.cs]
  go_enter Tryz.func21, Tryz.ntmps21
  go_wp2_with fail
  refine (PK _).mono ?_
  rintro e x ⟨rfl, hx⟩
  rw [hx]
  clear hx x
  go_wp2_with fail
  obtain ⟨z, hz⟩ : ∃ z, y.alloc (.cells #[.int .i64 kind, .int .i64 on, .string pr, .int .i64 v, .int .i64 leave, .int .i64 inn, .string oth] tO) = z := ⟨_, rfl⟩
  have hQ : z.heap[y.heap.size]? = some (.cells #[.int .i64 kind, .int .i64 on, .string pr, .int .i64 v, .int .i64 leave, .int .i64 inn, .string oth] tO) := hz ▸ Kb.h1_0 y _
  have h0 : Wd w z X W t r u L := hz ▸ h.below (Kb.below_one y (.cells #[.int .i64 kind, .int .i64 on, .string pr, .int .i64 v, .int .i64 leave, .int .i64 inn, .string oth] tO))
  rw [hz]
  obtain ⟨Q, hQQ⟩ : ∃ Q, y.heap.size = Q := ⟨_, rfl⟩
  rw [hQQ] at hQ
  rw [hQQ]
  clear hz hQQ h PK
  go_loopw [8] (fun iv wr => ∃ i : Nat, iv = .int .i64 (i : Int) ∧ i ≤ pk ∧ wr.heap[Q]? = some (.cells #[.int .i64 kind, .int .i64 on, .string pr, .int .i64 v, .int .i64 leave, .int .i64 inn, .string oth] tO) ∧ ∃ L2, Wd w wr X W t r u L2 ∧ ∀ j, (L2 j).length ≤ (L j).length + i) (fun iv _ => pk + 1 - (intOf iv).toNat)
  case atStart => exact ⟨0, rfl, Nat.zero_le _, hQ, L, h0, fun j => by omega⟩
  case round =>
    obtain ⟨i, rfl, hi, hQ2, L2, D2, hl2⟩ := hrel
    clear hQ h0
    by_cases hc : i < pk
    · have q0 : (i : Int) < (pk : Int) := by omega
      have q1 : (0 : Int) ≤ (i : Int) := by omega
      have q2 : (i : Int) < 300 := by omega
      have q3 : (i : Int) + 1 ≤ 9223372036854775807 := by omega
      have c2 : wr.cell? ⟨Q, 2, none⟩ = some (.string pr) := by simp [World.cell?, hQ2]
      have HQ2 := hid hQ2
      have HD2 := hid D2
      have HL2 := hid hl2
      have HI := hid (show i < pk ∧ pk < 300 by omega)
      clear hi hQ2 D2 hl2 hc hpk v0 v1
      obtain ⟨s3, hs3, CV⟩ := conv3 _ _ (48 + (i : Int) / 100) (48 + (i : Int) / 10 % 10) (48 + (i : Int) % 10) (Kb.h1_0 wr _) (by omega) (by omega) (by omega)
      have HS3 := hid hs3
      have CVH := hid CV
      clear hs3 CV
      go_wp2_with fail
      rw [CVH.out]
      clear CVH
      have t0 : pr.size + s3.size ≤ 9223372036854775807 := by have h1 := HP.out; have h2 := HS3.out; simp only [maxLen] at h1; omega
      have t1 : ¬ 9223372036854775807 < pr.size + s3.size := by omega
      have t2 : ¬ (9223372036854775807 : Int) < (pr.size : Int) + (s3.size : Int) := by omega
      go_wp2_with fail
      obtain ⟨sp, HSP⟩ : ∃ sp, Hid (pr ++ s3 = sp) := ⟨_, rfl⟩
      rw [HSP.out]
      have hsz := hid (show sp.size ≤ maxLen by rw [← HSP.out, ByteArray.size_append, HS3.out]; exact HP.out)
      obtain ⟨z2, hz2⟩ : ∃ z2, wr.alloc (.cells #[.int .u8 (48 + (i : Int) / 100), .int .u8 (48 + (i : Int) / 10 % 10), .int .u8 (48 + (i : Int) % 10)] 5) = z2 := ⟨_, rfl⟩
      have B2 : Below wr.heap.size wr z2 := hz2 ▸ Kb.below_one wr _
      have D3 := (HD2.out.below B2).below (Below.refl _ z2).drew
      have HQ0 := kept B2 HQ2.out
      have HQ3 := hid (show z2.drew.heap[Q]? = some (.cells #[.int .i64 kind, .int .i64 on, .string pr, .int .i64 v, .int .i64 leave, .int .i64 inn, .string oth] tO) from HQ0)
      clear HQ0 t0 t1 t2
      rw [hz2]
      clear hz2 c2 HQ2 HD2
      obtain ⟨w0, w1, -⟩ := Wd.cells D3 k hk
      have k0 : (0 : Int) ≤ (k : Int) := by omega
      have k1 : (k : Int) < 2 := by omega
      have hL9 : (L2 k).length ≤ 900000 := by have := HL2.out k; have := hL k; have := HI.out; omega
      have PA := put_first D3 hk sp (i : Int) hsz.out hL9
      have PB := hid (fun x (M : Md w z2.drew x X W t r u L2 k (putL (L2 k) sp.data.toList (i : Int))) => put_second (x := x) (s := sp) (v := (i : Int)) M hsz.out hL9)
      have KM := hid (fun x (M : Md w z2.drew x X W t r u L2 k (putL (L2 k) sp.data.toList (i : Int))) => (⟨md_kx M HQ3.out (by decide), md_kx M D3.blk (by decide)⟩ : x.heap[Q]? = some (.cells #[.int .i64 kind, .int .i64 on, .string pr, .int .i64 v, .int .i64 leave, .int .i64 inn, .string oth] tO) ∧ x.heap[W]? = some (.cells #[pA (t 0), pA (t 1), pA (r 0), pA (r 1), fvA (u 0), fvA (u 1)] tW)))
      have CW := hid (fun (x : World) (e : x.heap[W]? = some (.cells #[pA (t 0), pA (t 1), pA (r 0), pA (r 1), fvA (u 0), fvA (u 1)] tW)) => (show x.cell? ⟨W, k, none⟩ = some (.pointer (some ⟨t k, 0, none⟩)) ∧ x.cell? ⟨W, 2 + k, none⟩ = some (.pointer (some ⟨r k, 0, none⟩)) by
        have : k = 0 ∨ k = 1 := by omega
        rcases this with rfl | rfl <;> simp [World.cell?, e, pA]))
      clear D3 B2 hL9
      go_region_held3 (fun x => x.cell? ⟨W, k, none⟩ = some (.pointer (some ⟨t k, 0, none⟩)) ∧ x.cell? ⟨W, 2 + k, none⟩ = some (.pointer (some ⟨r k, 0, none⟩))) (first | exact ⟨by assumption, by assumption⟩ | (go_keep; done)) (first
        | (go_at_call 8; refine PA.mono ?_; rintro e x ⟨rfl, M⟩; obtain ⟨m0, m4⟩ := KM.out x M; obtain ⟨d4, d5⟩ := CW.out x m4; have PC := PB.out x M; have HM0 := hid m0; have HM4 := hid m4; clear M m0 m4)
        | (go_at_call 15; refine PC.mono ?_; rintro e x2 ⟨rfl, hW, hb2, hf2⟩; have G0 := hid (hb2 _ _ _ HM0.out (by decide)); obtain ⟨g4, g5⟩ := CW.out x2 (hb2 _ _ _ HM4.out (by decide)); have HW := hid hW; clear hW hb2 hf2))
      go_wp2_with fail
      refine ⟨⟨i + 1, by simp, HI.out.1, G0.out, _, HW.out, fun j => ?_⟩, ?_⟩
      · have := HL2.out j
        by_cases e : j = k
        · subst e
          simp only [if_true]
          have := putL_len (L2 j) sp.data.toList (i : Int)
          omega
        · simp only [e, if_false]
          omega
      · simp only [intOf]
        have := HI.out.1
        omega
    · obtain rfl : i = pk := by omega
      clear hi hc
      have HD2 := hid D2
      have HL2 := hid hl2
      clear D2 hl2 hQ2
      have q2 : ¬ ((i : Int) < (i : Int)) := by omega
      go_wp2_with fail
      go_ret
      exact ⟨rfl, L2, HD2.out, fun j => by have := HL2.out j; omega⟩
end Go.Proofs.YtecboaocoobjgaaGreatDoor.Wm
