/- The chapter's examples. -/
import Derived.Test.YtmnoplaepjaokaaGreatDoorYe
import Derived.Test.YtmnoplaepjaokaaGreatDoorYg
import Derived.Test.YtmnoplaepjaokaaGreatDoorZj
namespace Go.Proofs.YtmnoplaepjaokaaGreatDoor.Zk
set_option linter.unusedVariables false
set_option linter.unusedSimpArgs false
open Go.RowKit Go.Maps Lib0 Kb Xp Za Zb Zc Zd Ze Zf Zg Zh Zi Zj Yg
theorem bl_fr {B : Nat → Prop} {w0 y y' : World} (h : Below w0.heap.size w0 y) (k : FrP B y y') (hB : ∀ g, B g → w0.heap.size ≤ g) : Below w0.heap.size w0 y' :=
  ⟨k.os.trans h.os, k.tape.trans h.tape, k.output.trans h.output, Nat.le_trans h.size k.size, fun g hg => (k.block g (Nat.lt_of_lt_of_le hg h.size) (fun e => by have := hB g e; omega)).trans (h.block g hg)⟩
theorem rowf_blk {w : World} {g : Nat} {L : List Fl} {cap : Nat} (h : w.heap[g]? = some (.cells (fc L).toArray tF)) : RowF w (.slice (some ⟨g, 0, none⟩) L.length cap) L := by
  refine ⟨some ⟨g, 0, none⟩, cap, rfl, fun i hi => ⟨⟨g, 0, none⟩, rfl, ?_, ?_, ?_⟩⟩
  · rw [add_zero, cell_of_row _ _ _ _ _ _ h]; simpa using (fc_at L i hi).1
  · rw [add_zero, cell_of_row _ _ _ _ _ _ h]; simpa using (fc_at L i hi).2.1
  · rw [add_zero, cell_of_row _ _ _ _ _ _ h]; simpa using (fc_at L i hi).2.2
def s7 : ByteArray := ⟨#[48, 48, 48, 48, 48, 55]⟩
def s5 : ByteArray := ⟨#[48, 48, 48, 48, 48, 53]⟩
def sx : ByteArray := ⟨#[120]⟩
def m1 : ByteArray := ⟨#[48, 50, 48, 48]⟩
def m2 : ByteArray := ⟨#[48, 50, 49, 48]⟩
def L1 : List Fl := [(11, s7)]
def L2 : List Fl := [(11, s5), (37, sx)]
def z2 : List Int := [11, 37]
theorem gd2 : Gd z2 := ⟨by decide, by decide, by decide, by decide⟩
theorem fo1 : Fo L1 := ⟨by decide, by decide, by decide⟩
theorem fo2 : Fo L2 := ⟨by decide, by decide, by decide⟩
theorem wh1 : (Hr.rt m1 && snF 0 L1) = true := by decide
theorem wh2 : (Hr.rt m2 && snF 0 L2) = true := by decide
theorem kp1 : Zc.kp z2 true L1 = L1 := by rfl
theorem kp2 : Zc.kp z2 false L2 = [] := by rfl
def S0 := Ya.fresh 3
def S1 := Ya.tk S0
def S2 := Ya.tk S1
def S3 := Ya.fr S2 1
def S4 := Ya.tk S3
def S5 := Ya.tk S4
theorem ok0 : Ya.OK S0 := Ya.ok_fresh (by decide) (by decide)
theorem ok1 : Ya.OK S1 := ok0.tk
theorem ok2 : Ya.OK S2 := ok1.tk
theorem ok3 : Ya.OK S3 := ok2.fr 1
theorem ok4 : Ya.OK S4 := ok3.tk
theorem ok5 : Ya.OK S5 := ok4.tk
theorem n0 : Ya.nxt S0 = 1 ∧ Ya.tkE S0 = 0 := by decide
theorem n1 : Ya.nxt S1 = 2 ∧ Ya.tkE S1 = 0 := by decide
theorem n2 : Ya.frE S2 1 = 0 := by decide
theorem n3 : Ya.nxt S3 = 3 ∧ Ya.tkE S3 = 0 := by decide
theorem n4 : Ya.nxt S4 = 1 ∧ Ya.tkE S4 = 0 := by decide
theorem n5 : Ya.nxt S5 = 0 ∧ Ya.tkE S5 = 180 := by decide
theorem f42 : fieldR 42 = ([48, 48, 48, 48, 52, 50], 0) := by decide
/-- Numbers along the walk -/
structure Kn (w y : World) (b d : Nat) (S : Ya.St) : Prop where
  nm : ∃ W, Yc.Nm y b d S W
  bel : Below w.heap.size w y
  b0 : w.heap.size ≤ b
  d0 : w.heap.size ≤ d
  tb : Tb w
theorem Kn.take {w y : World} {b d : Nat} {S : Ya.St} (h : Kn w y b d S) (ho : Ya.OK S) : Calls Tryz.prog 26 #[.pointer (some ⟨b, 0, none⟩)] y fun e w' => e = .returned (.tuple #[.int .i64 ((Ya.nxt S : Nat) : Int), .int .i64 (Ya.tkE S)]) ∧ Kn w w' b d (Ya.tk S) := by
  obtain ⟨W, hn⟩ := h.nm
  refine (Ye.take_dealt hn ho (h.tb.next h.bel).tz).mono ?_
  rintro e w' ⟨he, hn', hf⟩
  exact ⟨he, hn', bl_fr h.bel hf (fun g hg => by rcases hg with rfl | rfl; exact h.b0; exact h.d0), h.b0, h.d0, h.tb⟩
theorem Kn.free {w y : World} {b d : Nat} {S : Ya.St} (h : Kn w y b d S) (ho : Ya.OK S) (k : Int) : Calls Tryz.prog 25 #[.pointer (some ⟨b, 0, none⟩), .int .i64 k] y fun e w' => e = .returned (.int .i64 (Ya.frE S k)) ∧ Kn w w' b d (Ya.fr S k) := by
  obtain ⟨W, hn⟩ := h.nm
  refine (Yd.free_any hn ho k).mono ?_
  rintro e w' ⟨he, hn', hf⟩
  exact ⟨he, hn', bl_fr h.bel hf (fun g hg => by rcases hg with rfl | rfl; exact h.b0; exact h.d0), h.b0, h.d0, h.tb⟩
set_option maxRecDepth 100000 in
set_option maxHeartbeats 3200000 in
theorem known_any (w : World) (hT : Tb w) : Calls Tryz.prog 9 #[] w fun e w' => e = .returned (.bool true) ∧ Below w.heap.size w w' := by
  have HT : Hid (Tb w) := hT
  have HNEW := Yd.new_good 3 w (by decide) (by decide)
  clear hT
  go_enter Tryz.func9, Tryz.ntmps9
  go_wp2_with fail
  refine HNEW.mono ?_
  rintro e y ⟨b, d, rfl, hn, hb, hb0, hd0⟩
  have HK : Hid (Kn w y b d S0) := ⟨⟨_, hn⟩, hb, hb0, hd0, HT.out⟩
  clear hn hb hb0 hd0 HNEW
  go_wp2_with fail
  refine (HK.out.take ok0).mono ?_
  rw [n0.1, n0.2]
  rintro e y1 ⟨rfl, hk⟩
  have HK1 : Hid (Kn w y1 b d S1) := hk
  clear hk HK
  go_wp2_with fail
  refine (HK1.out.take ok1).mono ?_
  rw [n1.1, n1.2]
  rintro e y2 ⟨rfl, hk⟩
  have HK2 : Hid (Kn w y2 b d S2) := hk
  clear hk HK1
  go_wp2_with fail
  refine (HK2.out.free ok2 1).mono ?_
  rw [n2]
  rintro e y3 ⟨rfl, hk⟩
  have HK3 : Hid (Kn w y3 b d S3) := hk
  clear hk HK2
  go_wp2_with fail
  refine (HK3.out.take ok3).mono ?_
  rw [n3.1, n3.2]
  rintro e y4 ⟨rfl, hk⟩
  have HK4 : Hid (Kn w y4 b d S4) := hk
  clear hk HK3
  go_wp2_with fail
  refine (HK4.out.take ok4).mono ?_
  rw [n4.1, n4.2]
  rintro e y5 ⟨rfl, hk⟩
  have HK5 : Hid (Kn w y5 b d S5) := hk
  clear hk HK4
  go_wp2_with fail
  refine (HK5.out.take ok5).mono ?_
  rw [n5.1, n5.2]
  rintro e y6 ⟨rfl, hk⟩
  have HB6 : Hid (Below w.heap.size w y6) := hk.bel
  clear hk HK5
  go_wp2_with fail
  refine (field_any 42 y6 (HT.out.next HB6.out)).mono ?_
  rw [f42]
  rintro e y7 ⟨rfl, hb⟩
  have HB7 : Hid (Below w.heap.size w y7) := keepB HB6.out hb
  clear hb HB6
  go_wp2_with fail
  have HBL : Hid (Below w.heap.size w (y7.alloc (.cells #[.int .i64 11, .int .i64 37] 3))) := keepB HB7.out (below_one _ _)
  have HNE : Hid (Calls Tryz.prog 19 #[.slice (some ⟨y7.heap.size, 0, none⟩) 2 2] (y7.alloc (.cells #[.int .i64 11, .int .i64 37] 3)) fun e w' => ∃ b mb, e = .returned (.tuple #[.pointer (some ⟨b, 0, none⟩), .int .i64 0]) ∧ Ec w' b mb z2 nof 0 0 ∧ Below (y7.alloc (.cells #[.int .i64 11, .int .i64 37] 3)).heap.size (y7.alloc (.cells #[.int .i64 11, .int .i64 37] 3)) w' ∧ (y7.alloc (.cells #[.int .i64 11, .int .i64 37] 3)).heap.size ≤ b ∧ (y7.alloc (.cells #[.int .i64 11, .int .i64 37] 3)).heap.size ≤ mb) := by
    refine newEcho_ok y7.heap.size 2 z2 _ gd2 (by decide) (fun j hj => ?_)
    rw [Nat.zero_add, cell_of_row _ _ _ _ _ _ (h1_0 y7 _)]
    have : j = 0 ∨ j = 1 := by simp [z2] at hj; omega
    rcases this with rfl | rfl <;> rfl
  refine HNE.out.mono ?_
  rintro e y8 ⟨eb, mb, rfl, hE, hb, hb0, hm0⟩
  have HE : Hid (Ec y8 eb mb z2 nof 0 0) := hE
  have HB8 : Hid (Below w.heap.size w y8) := keepB HBL.out hb
  have HMB : Hid (w.heap.size ≤ mb) := Nat.le_trans HBL.out.size hm0
  clear hE hb hb0 hm0 HNE HBL HB7
  go_wp2_with fail
  have HBx : Hid (Below w.heap.size w (y8.alloc (.cells #[.int .i64 11, .string ⟨#[48, 48, 48, 48, 48, 55]⟩, .slice none 0 0] tF))) := keepB HB8.out (below_one _ _)
  have HSV : Hid (Calls Tryz.prog 31 #[.pointer (some ⟨eb, 0, none⟩), .int .i64 5, .agg #[.string ⟨#[48, 50, 48, 48]⟩, .slice (some ⟨y8.heap.size, 0, none⟩) 1 1]] (y8.alloc (.cells #[.int .i64 11, .string ⟨#[48, 48, 48, 48, 48, 55]⟩, .slice none 0 0] tF)) fun e w' => e = .returned (.int .i64 0) ∧ Ec w' eb mb z2 (kput nof 5 (some L1)) 1 1 ∧ FrP (fun g => g = mb) (y8.alloc (.cells #[.int .i64 11, .string ⟨#[48, 48, 48, 48, 48, 55]⟩, .slice none 0 0] tF)) w') := by
    obtain ⟨fv, D, hE⟩ := HE.out
    have := save_ok (w := y8.alloc (.cells #[.int .i64 11, .string ⟨#[48, 48, 48, 48, 48, 55]⟩, .slice none 0 0] tF)) ⟨fv, D, hE.below (below_one _ _)⟩ (by decide) 5 (by decide) rfl m1 (.slice (some ⟨y8.heap.size, 0, none⟩) 1 1) L1 ⟨by decide, rowf_blk (L := L1) (h1_0 y8 _), fo1⟩ wh1
    rw [kp1] at this
    exact this
  refine HSV.out.mono ?_
  rintro e y9 ⟨rfl, hE, hf⟩
  have HE9 : Hid (Ec y9 eb mb z2 (kput nof 5 (some L1)) 1 1) := hE
  have HB9 : Hid (Below w.heap.size w y9) := bl_fr HBx.out hf (fun g hg => by rw [hg]; exact HMB.out)
  clear hE hf HSV HBx HB8 HE
  go_wp2_with fail
  have HBy : Hid (Below w.heap.size w (y9.alloc (.cells #[.int .i64 11, .string ⟨#[48, 48, 48, 48, 48, 53]⟩, .slice none 0 0, .int .i64 37, .string ⟨#[120]⟩, .slice none 0 0] tF))) := keepB HB9.out (below_one _ _)
  have HRS : Hid (Calls Tryz.prog 32 #[.pointer (some ⟨eb, 0, none⟩), .int .i64 5, .agg #[.string ⟨#[48, 50, 49, 48]⟩, .slice (some ⟨y9.heap.size, 0, none⟩) 2 2]] (y9.alloc (.cells #[.int .i64 11, .string ⟨#[48, 48, 48, 48, 48, 53]⟩, .slice none 0 0, .int .i64 37, .string ⟨#[120]⟩, .slice none 0 0] tF)) fun e w' => ∃ v', e = .returned (.tuple #[.agg #[.string ⟨#[48, 50, 49, 48]⟩, v'], .bool true]) ∧ (∃ g' cap', v' = .slice (some ⟨g', 0, none⟩) 1 cap' ∧ w'.cell? ⟨g', 1, none⟩ = some (.string ⟨#[48, 48, 48, 48, 48, 55]⟩) ∧ g' < w'.heap.size) ∧ Below w.heap.size w w') := by
    obtain ⟨fv, D, hE⟩ := HE9.out
    have := restore_ok (w := y9.alloc (.cells #[.int .i64 11, .string ⟨#[48, 48, 48, 48, 48, 53]⟩, .slice none 0 0, .int .i64 37, .string ⟨#[120]⟩, .slice none 0 0] tF)) ⟨fv, D, hE.below (below_one _ _)⟩ 5 (by decide) L1 rfl (by decide) m2 (.slice (some ⟨y9.heap.size, 0, none⟩) 2 2) L2 ⟨by decide, rowf_blk (L := L2) (h1_0 y9 _), fo2⟩ wh2
    rw [kp2] at this
    refine this.mono ?_
    rintro e w' ⟨T, hp, hs, v', he, ho, hb⟩
    have hT1 : T = L1 := List.perm_singleton.1 hp
    subst hT1
    refine ⟨v', he, ?_, keepB HBy.out hb⟩
    obtain ⟨g', cap', hv, hc⟩ := own_some ho (by decide)
    have h1 := hc 1 _ rfl
    rw [add_zero] at h1
    exact ⟨g', cap', hv, h1, World.block_lt_of_cell? w' _ h1⟩
  refine HRS.out.mono ?_
  rintro e y10 ⟨v', rfl, ⟨g', cap', rfl, hc1, hg1⟩, hb⟩
  have HB10 : Hid (Below w.heap.size w y10) := hb
  have hgx : (y10.alloc (.cells #[.string ⟨#[48, 50, 49, 48]⟩, .slice (some ⟨g', 0, none⟩) 1 cap'] tG)).cell? ⟨g', 1, none⟩ = some (.string ⟨#[48, 48, 48, 48, 48, 55]⟩) := keepC (below_one y10 _) hc1 hg1
  obtain ⟨k0, k1⟩ := box2 (Below.refl (y10.alloc (.cells #[.string ⟨#[48, 50, 49, 48]⟩, .slice (some ⟨g', 0, none⟩) 1 cap'] tG)).heap.size (y10.alloc (.cells #[.string ⟨#[48, 50, 49, 48]⟩, .slice (some ⟨g', 0, none⟩) 1 cap'] tG)))
  clear hb HRS HBy HB9 HE9 hc1 hg1
  go_wp2_with fail
  go_ret
  exact ⟨rfl, keepB HB10.out (below_one _ _)⟩
end Go.Proofs.YtmnoplaepjaokaaGreatDoor.Zk
