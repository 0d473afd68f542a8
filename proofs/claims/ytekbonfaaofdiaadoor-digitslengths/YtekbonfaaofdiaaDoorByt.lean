/- The document's Byte. -/
import Derived.Test.YtekbonfaaofdiaaDoorChr
namespace Go.Proofs.YtekbonfaaofdiaaDoor.Byt
open Go.RowKit Lib0 Chars Ebc Join Frm Spl Pck Rdd Unp Cod Pkr Chr
/-- what Byte answers of two characters a byte: beside a wrong filling they are told, too -/
def byteQ (hole : Nat) (b : UInt8) : List UInt8 × Int :=
  if hole = 1 then (if hlf (c2 b) then (if b.toNat / 16 = 0 then ([c2 b], 0) else ([c2 b], 12)) else ([], 11))
  else if hole = 2 then (if hlf (c1 b) then (if b.toNat % 16 = 15 then ([c1 b], 0) else ([c1 b], 12)) else ([], 11))
  else (if hlf (c1 b) then (if hlf (c2 b) then ([c1 b, c2 b], 0) else ([], 11)) else ([], 11))
def byteF (enc : Int) (n k : Nat) (b : UInt8) : List UInt8 × Int :=
  if enc = 2 ∨ enc = 3 then byteQ (holeAt enc n k) b else if fit enc (Rdd.chr enc b) then ([Rdd.chr enc b], 0) else ([], 11)
abbrev BPost (r : List UInt8 × Int) (w : World) (e : Ending) (w' : World) : Prop := e = .returned (.tuple #[.string ⟨r.1.toArray⟩, .int .i64 r.2]) ∧ Below w.heap.size w w'
set_option maxRecDepth 100000 in
theorem byte_one (enc : Int) (b : UInt8) (i n : Int) (w : World) (h : enc = 1 ∨ enc = 4 ∨ enc = 5) :
    Calls Tryd.prog 32 #[.int .i64 enc, .int .u8 (b.toNat : Int), .int .i64 i, .int .i64 n] w (BPost (if fit enc (Rdd.chr enc b) then ([Rdd.chr enc b], 0) else ([], 11)) w) := by
  show Calls _ _ _ _ fun e w' => e = _ ∧ _
  have HN : Hid (enc = 1 ∨ enc = 4 ∨ enc = 5) := h
  clear h
  cases hf : fit enc (Rdd.chr enc b)
  · have Hf : Hid _ := hf
    clear hf
    go_enter Tryd.func32, Tryd.ntmps32
    go_wp2_with fail
    refine (packed_no enc _ HN.out).mono ?_
    rintro e w' ⟨rfl, rfl⟩
    go_wp2_with fail
    refine (char_any enc b _ HN.out).mono ?_
    rintro e x ⟨rfl, nq, hw⟩
    have hb : Below w'.heap.size w' x := hw ▸ below_drewN (Below.refl _ _) nq
    clear hw
    rw [Hf.out]
    go_wp2
    go_ret2
    exact ⟨rfl, hb⟩
  · have Hf : Hid _ := hf
    have H2 : Hid (charB enc b = Rdd.chr enc b) := by show _ = _; unfold charB; rw [hf]; rfl
    clear hf
    go_enter Tryd.func32, Tryd.ntmps32
    go_wp2_with fail
    refine (packed_no enc _ HN.out).mono ?_
    rintro e w' ⟨rfl, rfl⟩
    go_wp2_with fail
    refine (char_any enc b _ HN.out).mono ?_
    rintro e x ⟨rfl, nq, hw⟩
    have hb : Below w'.heap.size w' x := hw ▸ below_drewN (Below.refl _ _) nq
    clear hw
    rw [Hf.out, H2.out]
    have hcv := Lib1.run_one_int x ((Rdd.chr enc b).toNat : Int) (Rdd.chr enc b) rfl
    go_wp2
    go_ret2
    exact ⟨rfl, hb.alloc hb.size _⟩
theorem ch1_yes (b : UInt8) (h : hlf (c1 b) = true) : charH (b.toNat / 16) = c1 b := by show (if hlf (c1 b) then c1 b else 0) = c1 b; rw [h]; rfl
theorem ch1_no (b : UInt8) (h : hlf (c1 b) = false) : charH (b.toNat / 16) = 0 := by show (if hlf (c1 b) then c1 b else 0) = 0; rw [h]; rfl
theorem ch2_yes (b : UInt8) (h : hlf (c2 b) = true) : charH (b.toNat % 16) = c2 b := by show (if hlf (c2 b) then c2 b else 0) = c2 b; rw [h]; rfl
theorem ch2_no (b : UInt8) (h : hlf (c2 b) = false) : charH (b.toNat % 16) = 0 := by show (if hlf (c2 b) then c2 b else 0) = 0; rw [h]; rfl
theorem half1 (b : UInt8) (w : World) : Calls Tryd.prog 53 #[.int .i64 ((b.toNat : Int) / 16)] w fun e w' => e = .returned (.int .u8 ((charH (b.toNat / 16)).toNat : Int)) ∧ w' = w := by
  have := half_any (b.toNat / 16) w (by have := b.toNat_lt; omega)
  rwa [show ((b.toNat / 16 : Nat) : Int) = (b.toNat : Int) / 16 by omega] at this
theorem half2 (b : UInt8) (w : World) : Calls Tryd.prog 53 #[.int .i64 ((b.toNat : Int) % 16)] w fun e w' => e = .returned (.int .u8 ((charH (b.toNat % 16)).toNat : Int)) ∧ w' = w := by
  have := half_any (b.toNat % 16) w (by have := b.toNat_lt; omega)
  rwa [show ((b.toNat % 16 : Nat) : Int) = (b.toNat : Int) % 16 by omega] at this
set_option maxRecDepth 100000 in
set_option maxHeartbeats 800000 in
theorem two_even (enc : Int) (b : UInt8) (i : Nat) (n : Nat) (w : World) (h : enc = 2 ∨ enc = 3) (ho : ((n : Int) % 2 == 1) = false) :
    Calls Tryd.prog 32 #[.int .i64 enc, .int .u8 (b.toNat : Int), .int .i64 i, .int .i64 n] w (BPost (byteQ 0 b) w) := by
  show Calls _ _ _ _ fun e w' => e = _ ∧ _
  obtain ⟨i0, hi, hz0, hz1, hz2⟩ := info_parts info
  have HN : Hid (enc = 2 ∨ enc = 3) := h
  have hc := b.toNat_lt
  have p1 := c1_nat b
  have n1 : (((c1 b).toNat : Int) == 0) = false := beq_eq_false_iff_ne.mpr (by omega)
  clear p1
  have p2 := c2_nat b
  have n2 : (((c2 b).toNat : Int) == 0) = false := beq_eq_false_iff_ne.mpr (by omega)
  clear p2
  clear h
  cases hf1 : hlf (c1 b)
  · have H1 : Hid (charH (b.toNat / 16) = 0) := ch1_no b hf1
    have HE : Hid (byteQ 0 b = ([], 11)) := by show _ = _; simp [byteQ, hf1]
    clear hf1
    go_enter Tryd.func32, Tryd.ntmps32
    go_wp2_with fail
    refine (packed_yes enc _ HN.out).mono ?_
    rintro e w' ⟨rfl, rfl⟩
    go_wp2
    obtain ⟨x0, hx0⟩ : ∃ x, w'.alloc (.cells #[.int .i64 ((b.toNat : Int) / 16), .int .i64 ((b.toNat : Int) % 16)] 3) = x := ⟨_, rfl⟩
    have e0 : x0.cell? ⟨w'.heap.size, 0, none⟩ = some (.int .i64 ((b.toNat : Int) / 16)) := by rw [← hx0, World.cell?_alloc_at _ _ _ _ rfl]; rfl
    have e1 : x0.cell? ⟨w'.heap.size, 1, none⟩ = some (.int .i64 ((b.toNat : Int) % 16)) := by rw [← hx0, World.cell?_alloc_at _ _ _ _ rfl]; rfl
    have z0 : w'.heap.size < x0.heap.size := by rw [← hx0]; simp
    have hb0 : Below w'.heap.size w' x0 := hx0 ▸ (Below.refl _ _).alloc (Nat.le_refl _) _
    rw [hx0]
    clear hx0
    obtain ⟨v0, hv0⟩ : ∃ v, Value.slice Option.none 0 0 = v := ⟨_, rfl⟩
    have hown0 : x0.ownsRow x0.heap.size 5 1 v0 0 (bs []) := hv0 ▸ World.ownsRow_nil _ _ _ _
    rw [hv0]
    clear hv0
    have hc0 : Below x0.heap.size x0 x0 := Below.refl _ _
    refine wp_loop_rounds 3 ?_
    rw [rounds_succ]
    go_wp2_with fail
    refine (half1 b _).mono ?_
    rintro e x ⟨rfl, hx⟩
    rw [hx, H1.out]
    clear hx x
    go_wp2
    go_ret2
    exact ⟨by rw [HE.out]; rfl, hb0.trans (hc0.mono (by omega))⟩
  · have H1 : Hid (charH (b.toNat / 16) = c1 b) := ch1_yes b hf1
    cases hf2 : hlf (c2 b)
    · have H2 : Hid (charH (b.toNat % 16) = 0) := ch2_no b hf2
      have HE : Hid (byteQ 0 b = ([], 11)) := by show _ = _; simp [byteQ, hf2]
      clear hf1 hf2
      go_enter Tryd.func32, Tryd.ntmps32
      go_wp2_with fail
      refine (packed_yes enc _ HN.out).mono ?_
      rintro e w' ⟨rfl, rfl⟩
      go_wp2
      obtain ⟨x0, hx0⟩ : ∃ x, w'.alloc (.cells #[.int .i64 ((b.toNat : Int) / 16), .int .i64 ((b.toNat : Int) % 16)] 3) = x := ⟨_, rfl⟩
      have e0 : x0.cell? ⟨w'.heap.size, 0, none⟩ = some (.int .i64 ((b.toNat : Int) / 16)) := by rw [← hx0, World.cell?_alloc_at _ _ _ _ rfl]; rfl
      have e1 : x0.cell? ⟨w'.heap.size, 1, none⟩ = some (.int .i64 ((b.toNat : Int) % 16)) := by rw [← hx0, World.cell?_alloc_at _ _ _ _ rfl]; rfl
      have z0 : w'.heap.size < x0.heap.size := by rw [← hx0]; simp
      have hb0 : Below w'.heap.size w' x0 := hx0 ▸ (Below.refl _ _).alloc (Nat.le_refl _) _
      rw [hx0]
      clear hx0
      obtain ⟨v0, hv0⟩ : ∃ v, Value.slice Option.none 0 0 = v := ⟨_, rfl⟩
      have hown0 : x0.ownsRow x0.heap.size 5 1 v0 0 (bs []) := hv0 ▸ World.ownsRow_nil _ _ _ _
      rw [hv0]
      clear hv0
      have hc0 : Below x0.heap.size x0 x0 := Below.refl _ _
      refine wp_loop_rounds 3 ?_
      rw [rounds_succ]
      go_wp2_with fail
      refine (half1 b _).mono ?_
      rintro e x ⟨rfl, hx⟩
      rw [hx, H1.out]
      clear hx x
      have s0 := hc0.size
      go_wp2_with (at_builtin; refine wpList_append_lies _ rfl _ _ _ rfl x0.heap.size 5 i0 _ 1 1 Tryd.underlying44 hi hz0 hz1 hz2 rfl (by omega) v0 0 _ rfl (hown0.alloc _) ⟨x0.heap.size, 0, none⟩ 1 1 _ rfl (by rfl) (World.news_of_block (heap_alloc_new x0 _)) (by simp [Value.oneCell']) (by omega) (by unfold maxLen; omega) (by omega) (by first | omega | (simp <;> omega)) (x0.heap.size + 1) (by simp) ?_)
      intro g1 cap1 y1 hown1' hgrow1 hat1 hltg1
      have hown1 : y1.ownsRow x0.heap.size 5 1 (.slice (some ⟨g1, 0, none⟩) 1 cap1) 1 (bs [c1 b]) := hown1'
      have hc1 := below_app0 hc0 hc0.size hown0 hgrow1
      replace e0 : y1.cell? ⟨w'.heap.size, 0, none⟩ = some (.int .i64 ((b.toNat : Int) / 16)) := (hc1.cell (p := ⟨w'.heap.size, 0, none⟩) z0).trans ((hc0.cell (p := ⟨w'.heap.size, 0, none⟩) z0).symm.trans e0)
      replace e1 : y1.cell? ⟨w'.heap.size, 1, none⟩ = some (.int .i64 ((b.toNat : Int) % 16)) := (hc1.cell (p := ⟨w'.heap.size, 1, none⟩) z0).trans ((hc0.cell (p := ⟨w'.heap.size, 1, none⟩) z0).symm.trans e1)
      clear hown1' hgrow1 hat1 hltg1 hown0
      go_wp2
      rw [rounds_succ]
      go_wp2_with fail
      refine (half2 b _).mono ?_
      rintro e x ⟨rfl, hx⟩
      rw [hx, H2.out]
      clear hx x
      go_wp2
      go_ret2
      exact ⟨by rw [HE.out]; rfl, hb0.trans (hc1.mono (by omega))⟩
    · have H2 : Hid (charH (b.toNat % 16) = c2 b) := ch2_yes b hf2
      have HE : Hid (byteQ 0 b = ([c1 b, c2 b], 0)) := by show _ = _; simp [byteQ, hf1, hf2]
      clear hf1 hf2
      go_enter Tryd.func32, Tryd.ntmps32
      go_wp2_with fail
      refine (packed_yes enc _ HN.out).mono ?_
      rintro e w' ⟨rfl, rfl⟩
      go_wp2
      obtain ⟨x0, hx0⟩ : ∃ x, w'.alloc (.cells #[.int .i64 ((b.toNat : Int) / 16), .int .i64 ((b.toNat : Int) % 16)] 3) = x := ⟨_, rfl⟩
      have e0 : x0.cell? ⟨w'.heap.size, 0, none⟩ = some (.int .i64 ((b.toNat : Int) / 16)) := by rw [← hx0, World.cell?_alloc_at _ _ _ _ rfl]; rfl
      have e1 : x0.cell? ⟨w'.heap.size, 1, none⟩ = some (.int .i64 ((b.toNat : Int) % 16)) := by rw [← hx0, World.cell?_alloc_at _ _ _ _ rfl]; rfl
      have z0 : w'.heap.size < x0.heap.size := by rw [← hx0]; simp
      have hb0 : Below w'.heap.size w' x0 := hx0 ▸ (Below.refl _ _).alloc (Nat.le_refl _) _
      rw [hx0]
      clear hx0
      obtain ⟨v0, hv0⟩ : ∃ v, Value.slice Option.none 0 0 = v := ⟨_, rfl⟩
      have hown0 : x0.ownsRow x0.heap.size 5 1 v0 0 (bs []) := hv0 ▸ World.ownsRow_nil _ _ _ _
      rw [hv0]
      clear hv0
      have hc0 : Below x0.heap.size x0 x0 := Below.refl _ _
      refine wp_loop_rounds 3 ?_
      rw [rounds_succ]
      go_wp2_with fail
      refine (half1 b _).mono ?_
      rintro e x ⟨rfl, hx⟩
      rw [hx, H1.out]
      clear hx x
      have s0 := hc0.size
      go_wp2_with (at_builtin; refine wpList_append_lies _ rfl _ _ _ rfl x0.heap.size 5 i0 _ 1 1 Tryd.underlying44 hi hz0 hz1 hz2 rfl (by omega) v0 0 _ rfl (hown0.alloc _) ⟨x0.heap.size, 0, none⟩ 1 1 _ rfl (by rfl) (World.news_of_block (heap_alloc_new x0 _)) (by simp [Value.oneCell']) (by omega) (by unfold maxLen; omega) (by omega) (by first | omega | (simp <;> omega)) (x0.heap.size + 1) (by simp) ?_)
      intro g1 cap1 y1 hown1' hgrow1 hat1 hltg1
      have hown1 : y1.ownsRow x0.heap.size 5 1 (.slice (some ⟨g1, 0, none⟩) 1 cap1) 1 (bs [c1 b]) := hown1'
      have hc1 := below_app0 hc0 hc0.size hown0 hgrow1
      replace e0 : y1.cell? ⟨w'.heap.size, 0, none⟩ = some (.int .i64 ((b.toNat : Int) / 16)) := (hc1.cell (p := ⟨w'.heap.size, 0, none⟩) z0).trans ((hc0.cell (p := ⟨w'.heap.size, 0, none⟩) z0).symm.trans e0)
      replace e1 : y1.cell? ⟨w'.heap.size, 1, none⟩ = some (.int .i64 ((b.toNat : Int) % 16)) := (hc1.cell (p := ⟨w'.heap.size, 1, none⟩) z0).trans ((hc0.cell (p := ⟨w'.heap.size, 1, none⟩) z0).symm.trans e1)
      clear hown1' hgrow1 hat1 hltg1 hown0
      go_wp2
      rw [rounds_succ]
      go_wp2_with fail
      refine (half2 b _).mono ?_
      rintro e x ⟨rfl, hx⟩
      rw [hx, H2.out]
      clear hx x
      have s1 := hc1.size
      go_wp2_with (at_builtin; refine wpList_append_lies _ rfl _ _ _ rfl x0.heap.size 5 i0 _ 1 1 Tryd.underlying44 hi hz0 hz1 hz2 rfl (by omega) (.slice (some ⟨g1, 0, none⟩) 1 cap1) 1 _ rfl (hown1.alloc _) ⟨y1.heap.size, 0, none⟩ 1 1 _ rfl (by rfl) (World.news_of_block (heap_alloc_new y1 _)) (by simp [Value.oneCell']) (by omega) (by unfold maxLen; omega) (by omega) (by first | omega | (simp <;> omega)) (y1.heap.size + 1) (by simp) ?_)
      intro g2 cap2 y2 hown2' hgrow2 hat2 hltg2
      have hown2 : y2.ownsRow x0.heap.size 5 1 (.slice (some ⟨g2, 0, none⟩) 2 cap2) 2 (bs [c1 b, c2 b]) := hown2'
      have hc2 := below_app0 hc1 hc1.size hown1 hgrow2
      replace e0 : y2.cell? ⟨w'.heap.size, 0, none⟩ = some (.int .i64 ((b.toNat : Int) / 16)) := (hc2.cell (p := ⟨w'.heap.size, 0, none⟩) z0).trans ((hc1.cell (p := ⟨w'.heap.size, 0, none⟩) z0).symm.trans e0)
      replace e1 : y2.cell? ⟨w'.heap.size, 1, none⟩ = some (.int .i64 ((b.toNat : Int) % 16)) := (hc2.cell (p := ⟨w'.heap.size, 1, none⟩) z0).trans ((hc1.cell (p := ⟨w'.heap.size, 1, none⟩) z0).symm.trans e1)
      clear hown2' hgrow2 hat2 hltg2 hown1
      go_wp2
      rw [rounds_succ]
      have hcv := run_str (P := Tryd.prog) (src := 44) (dst := 9) Tryd.underlying44 Tryd.underlying5 Tryd.underlying9 hown2
      go_wp2
      go_ret2
      exact ⟨by rw [HE.out]; exact ret_ss rfl rfl, hb0.trans (hc2.mono (by omega))⟩
set_option maxRecDepth 100000 in
set_option maxHeartbeats 800000 in
theorem two_far (b : UInt8) (i : Nat) (n : Nat) (w : World) (ho : ((n : Int) % 2 == 1) = true) (hi0 : ((i : Int) == 0) = false) :
    Calls Tryd.prog 32 #[.int .i64 2, .int .u8 (b.toNat : Int), .int .i64 i, .int .i64 n] w (BPost (byteQ 0 b) w) := by
  show Calls _ _ _ _ fun e w' => e = _ ∧ _
  obtain ⟨i0, hi, hz0, hz1, hz2⟩ := info_parts info
  have hc := b.toNat_lt
  have p1 := c1_nat b
  have n1 : (((c1 b).toNat : Int) == 0) = false := beq_eq_false_iff_ne.mpr (by omega)
  clear p1
  have p2 := c2_nat b
  have n2 : (((c2 b).toNat : Int) == 0) = false := beq_eq_false_iff_ne.mpr (by omega)
  clear p2
  cases hf1 : hlf (c1 b)
  · have H1 : Hid (charH (b.toNat / 16) = 0) := ch1_no b hf1
    have HE : Hid (byteQ 0 b = ([], 11)) := by show _ = _; simp [byteQ, hf1]
    clear hf1
    go_enter Tryd.func32, Tryd.ntmps32
    go_wp2_with fail
    refine (packed_yes 2 _ (Or.inl rfl)).mono ?_
    rintro e w' ⟨rfl, rfl⟩
    go_wp2
    obtain ⟨x0, hx0⟩ : ∃ x, w'.alloc (.cells #[.int .i64 ((b.toNat : Int) / 16), .int .i64 ((b.toNat : Int) % 16)] 3) = x := ⟨_, rfl⟩
    have e0 : x0.cell? ⟨w'.heap.size, 0, none⟩ = some (.int .i64 ((b.toNat : Int) / 16)) := by rw [← hx0, World.cell?_alloc_at _ _ _ _ rfl]; rfl
    have e1 : x0.cell? ⟨w'.heap.size, 1, none⟩ = some (.int .i64 ((b.toNat : Int) % 16)) := by rw [← hx0, World.cell?_alloc_at _ _ _ _ rfl]; rfl
    have z0 : w'.heap.size < x0.heap.size := by rw [← hx0]; simp
    have hb0 : Below w'.heap.size w' x0 := hx0 ▸ (Below.refl _ _).alloc (Nat.le_refl _) _
    rw [hx0]
    clear hx0
    obtain ⟨v0, hv0⟩ : ∃ v, Value.slice Option.none 0 0 = v := ⟨_, rfl⟩
    have hown0 : x0.ownsRow x0.heap.size 5 1 v0 0 (bs []) := hv0 ▸ World.ownsRow_nil _ _ _ _
    rw [hv0]
    clear hv0
    have hc0 : Below x0.heap.size x0 x0 := Below.refl _ _
    refine wp_loop_rounds 3 ?_
    rw [rounds_succ]
    go_wp2_with fail
    refine (half1 b _).mono ?_
    rintro e x ⟨rfl, hx⟩
    rw [hx, H1.out]
    clear hx x
    go_wp2
    go_ret2
    exact ⟨by rw [HE.out]; rfl, hb0.trans (hc0.mono (by omega))⟩
  · have H1 : Hid (charH (b.toNat / 16) = c1 b) := ch1_yes b hf1
    cases hf2 : hlf (c2 b)
    · have H2 : Hid (charH (b.toNat % 16) = 0) := ch2_no b hf2
      have HE : Hid (byteQ 0 b = ([], 11)) := by show _ = _; simp [byteQ, hf2]
      clear hf1 hf2
      go_enter Tryd.func32, Tryd.ntmps32
      go_wp2_with fail
      refine (packed_yes 2 _ (Or.inl rfl)).mono ?_
      rintro e w' ⟨rfl, rfl⟩
      go_wp2
      obtain ⟨x0, hx0⟩ : ∃ x, w'.alloc (.cells #[.int .i64 ((b.toNat : Int) / 16), .int .i64 ((b.toNat : Int) % 16)] 3) = x := ⟨_, rfl⟩
      have e0 : x0.cell? ⟨w'.heap.size, 0, none⟩ = some (.int .i64 ((b.toNat : Int) / 16)) := by rw [← hx0, World.cell?_alloc_at _ _ _ _ rfl]; rfl
      have e1 : x0.cell? ⟨w'.heap.size, 1, none⟩ = some (.int .i64 ((b.toNat : Int) % 16)) := by rw [← hx0, World.cell?_alloc_at _ _ _ _ rfl]; rfl
      have z0 : w'.heap.size < x0.heap.size := by rw [← hx0]; simp
      have hb0 : Below w'.heap.size w' x0 := hx0 ▸ (Below.refl _ _).alloc (Nat.le_refl _) _
      rw [hx0]
      clear hx0
      obtain ⟨v0, hv0⟩ : ∃ v, Value.slice Option.none 0 0 = v := ⟨_, rfl⟩
      have hown0 : x0.ownsRow x0.heap.size 5 1 v0 0 (bs []) := hv0 ▸ World.ownsRow_nil _ _ _ _
      rw [hv0]
      clear hv0
      have hc0 : Below x0.heap.size x0 x0 := Below.refl _ _
      refine wp_loop_rounds 3 ?_
      rw [rounds_succ]
      go_wp2_with fail
      refine (half1 b _).mono ?_
      rintro e x ⟨rfl, hx⟩
      rw [hx, H1.out]
      clear hx x
      have s0 := hc0.size
      go_wp2_with (at_builtin; refine wpList_append_lies _ rfl _ _ _ rfl x0.heap.size 5 i0 _ 1 1 Tryd.underlying44 hi hz0 hz1 hz2 rfl (by omega) v0 0 _ rfl (hown0.alloc _) ⟨x0.heap.size, 0, none⟩ 1 1 _ rfl (by rfl) (World.news_of_block (heap_alloc_new x0 _)) (by simp [Value.oneCell']) (by omega) (by unfold maxLen; omega) (by omega) (by first | omega | (simp <;> omega)) (x0.heap.size + 1) (by simp) ?_)
      intro g1 cap1 y1 hown1' hgrow1 hat1 hltg1
      have hown1 : y1.ownsRow x0.heap.size 5 1 (.slice (some ⟨g1, 0, none⟩) 1 cap1) 1 (bs [c1 b]) := hown1'
      have hc1 := below_app0 hc0 hc0.size hown0 hgrow1
      replace e0 : y1.cell? ⟨w'.heap.size, 0, none⟩ = some (.int .i64 ((b.toNat : Int) / 16)) := (hc1.cell (p := ⟨w'.heap.size, 0, none⟩) z0).trans ((hc0.cell (p := ⟨w'.heap.size, 0, none⟩) z0).symm.trans e0)
      replace e1 : y1.cell? ⟨w'.heap.size, 1, none⟩ = some (.int .i64 ((b.toNat : Int) % 16)) := (hc1.cell (p := ⟨w'.heap.size, 1, none⟩) z0).trans ((hc0.cell (p := ⟨w'.heap.size, 1, none⟩) z0).symm.trans e1)
      clear hown1' hgrow1 hat1 hltg1 hown0
      go_wp2
      rw [rounds_succ]
      go_wp2_with fail
      refine (half2 b _).mono ?_
      rintro e x ⟨rfl, hx⟩
      rw [hx, H2.out]
      clear hx x
      go_wp2
      go_ret2
      exact ⟨by rw [HE.out]; rfl, hb0.trans (hc1.mono (by omega))⟩
    · have H2 : Hid (charH (b.toNat % 16) = c2 b) := ch2_yes b hf2
      have HE : Hid (byteQ 0 b = ([c1 b, c2 b], 0)) := by show _ = _; simp [byteQ, hf1, hf2]
      clear hf1 hf2
      go_enter Tryd.func32, Tryd.ntmps32
      go_wp2_with fail
      refine (packed_yes 2 _ (Or.inl rfl)).mono ?_
      rintro e w' ⟨rfl, rfl⟩
      go_wp2
      obtain ⟨x0, hx0⟩ : ∃ x, w'.alloc (.cells #[.int .i64 ((b.toNat : Int) / 16), .int .i64 ((b.toNat : Int) % 16)] 3) = x := ⟨_, rfl⟩
      have e0 : x0.cell? ⟨w'.heap.size, 0, none⟩ = some (.int .i64 ((b.toNat : Int) / 16)) := by rw [← hx0, World.cell?_alloc_at _ _ _ _ rfl]; rfl
      have e1 : x0.cell? ⟨w'.heap.size, 1, none⟩ = some (.int .i64 ((b.toNat : Int) % 16)) := by rw [← hx0, World.cell?_alloc_at _ _ _ _ rfl]; rfl
      have z0 : w'.heap.size < x0.heap.size := by rw [← hx0]; simp
      have hb0 : Below w'.heap.size w' x0 := hx0 ▸ (Below.refl _ _).alloc (Nat.le_refl _) _
      rw [hx0]
      clear hx0
      obtain ⟨v0, hv0⟩ : ∃ v, Value.slice Option.none 0 0 = v := ⟨_, rfl⟩
      have hown0 : x0.ownsRow x0.heap.size 5 1 v0 0 (bs []) := hv0 ▸ World.ownsRow_nil _ _ _ _
      rw [hv0]
      clear hv0
      have hc0 : Below x0.heap.size x0 x0 := Below.refl _ _
      refine wp_loop_rounds 3 ?_
      rw [rounds_succ]
      go_wp2_with fail
      refine (half1 b _).mono ?_
      rintro e x ⟨rfl, hx⟩
      rw [hx, H1.out]
      clear hx x
      have s0 := hc0.size
      go_wp2_with (at_builtin; refine wpList_append_lies _ rfl _ _ _ rfl x0.heap.size 5 i0 _ 1 1 Tryd.underlying44 hi hz0 hz1 hz2 rfl (by omega) v0 0 _ rfl (hown0.alloc _) ⟨x0.heap.size, 0, none⟩ 1 1 _ rfl (by rfl) (World.news_of_block (heap_alloc_new x0 _)) (by simp [Value.oneCell']) (by omega) (by unfold maxLen; omega) (by omega) (by first | omega | (simp <;> omega)) (x0.heap.size + 1) (by simp) ?_)
      intro g1 cap1 y1 hown1' hgrow1 hat1 hltg1
      have hown1 : y1.ownsRow x0.heap.size 5 1 (.slice (some ⟨g1, 0, none⟩) 1 cap1) 1 (bs [c1 b]) := hown1'
      have hc1 := below_app0 hc0 hc0.size hown0 hgrow1
      replace e0 : y1.cell? ⟨w'.heap.size, 0, none⟩ = some (.int .i64 ((b.toNat : Int) / 16)) := (hc1.cell (p := ⟨w'.heap.size, 0, none⟩) z0).trans ((hc0.cell (p := ⟨w'.heap.size, 0, none⟩) z0).symm.trans e0)
      replace e1 : y1.cell? ⟨w'.heap.size, 1, none⟩ = some (.int .i64 ((b.toNat : Int) % 16)) := (hc1.cell (p := ⟨w'.heap.size, 1, none⟩) z0).trans ((hc0.cell (p := ⟨w'.heap.size, 1, none⟩) z0).symm.trans e1)
      clear hown1' hgrow1 hat1 hltg1 hown0
      go_wp2
      rw [rounds_succ]
      go_wp2_with fail
      refine (half2 b _).mono ?_
      rintro e x ⟨rfl, hx⟩
      rw [hx, H2.out]
      clear hx x
      have s1 := hc1.size
      go_wp2_with (at_builtin; refine wpList_append_lies _ rfl _ _ _ rfl x0.heap.size 5 i0 _ 1 1 Tryd.underlying44 hi hz0 hz1 hz2 rfl (by omega) (.slice (some ⟨g1, 0, none⟩) 1 cap1) 1 _ rfl (hown1.alloc _) ⟨y1.heap.size, 0, none⟩ 1 1 _ rfl (by rfl) (World.news_of_block (heap_alloc_new y1 _)) (by simp [Value.oneCell']) (by omega) (by unfold maxLen; omega) (by omega) (by first | omega | (simp <;> omega)) (y1.heap.size + 1) (by simp) ?_)
      intro g2 cap2 y2 hown2' hgrow2 hat2 hltg2
      have hown2 : y2.ownsRow x0.heap.size 5 1 (.slice (some ⟨g2, 0, none⟩) 2 cap2) 2 (bs [c1 b, c2 b]) := hown2'
      have hc2 := below_app0 hc1 hc1.size hown1 hgrow2
      replace e0 : y2.cell? ⟨w'.heap.size, 0, none⟩ = some (.int .i64 ((b.toNat : Int) / 16)) := (hc2.cell (p := ⟨w'.heap.size, 0, none⟩) z0).trans ((hc1.cell (p := ⟨w'.heap.size, 0, none⟩) z0).symm.trans e0)
      replace e1 : y2.cell? ⟨w'.heap.size, 1, none⟩ = some (.int .i64 ((b.toNat : Int) % 16)) := (hc2.cell (p := ⟨w'.heap.size, 1, none⟩) z0).trans ((hc1.cell (p := ⟨w'.heap.size, 1, none⟩) z0).symm.trans e1)
      clear hown2' hgrow2 hat2 hltg2 hown1
      go_wp2
      rw [rounds_succ]
      have hcv := run_str (P := Tryd.prog) (src := 44) (dst := 9) Tryd.underlying44 Tryd.underlying5 Tryd.underlying9 hown2
      go_wp2
      go_ret2
      exact ⟨by rw [HE.out]; exact ret_ss rfl rfl, hb0.trans (hc2.mono (by omega))⟩
set_option maxRecDepth 100000 in
set_option maxHeartbeats 800000 in
theorem two_at (b : UInt8) (n : Nat) (w : World) (ho : ((n : Int) % 2 == 1) = true) :
    Calls Tryd.prog 32 #[.int .i64 2, .int .u8 (b.toNat : Int), .int .i64 0, .int .i64 n] w (BPost (byteQ 1 b) w) := by
  show Calls _ _ _ _ fun e w' => e = _ ∧ _
  obtain ⟨i0, hi, hz0, hz1, hz2⟩ := info_parts info
  have hc := b.toNat_lt
  have p2 := c2_nat b
  have n2 : (((c2 b).toNat : Int) == 0) = false := beq_eq_false_iff_ne.mpr (by omega)
  clear p2
  cases hf : hlf (c2 b)
  · have H2 : Hid (charH (b.toNat % 16) = 0) := ch2_no b hf
    have HE : Hid (byteQ 1 b = ([], 11)) := by show _ = _; simp [byteQ, hf]
    clear hf
    go_enter Tryd.func32, Tryd.ntmps32
    go_wp2_with fail
    refine (packed_yes 2 _ (Or.inl rfl)).mono ?_
    rintro e w' ⟨rfl, rfl⟩
    go_wp2
    obtain ⟨x0, hx0⟩ : ∃ x, w'.alloc (.cells #[.int .i64 ((b.toNat : Int) / 16), .int .i64 ((b.toNat : Int) % 16)] 3) = x := ⟨_, rfl⟩
    have e0 : x0.cell? ⟨w'.heap.size, 0, none⟩ = some (.int .i64 ((b.toNat : Int) / 16)) := by rw [← hx0, World.cell?_alloc_at _ _ _ _ rfl]; rfl
    have e1 : x0.cell? ⟨w'.heap.size, 1, none⟩ = some (.int .i64 ((b.toNat : Int) % 16)) := by rw [← hx0, World.cell?_alloc_at _ _ _ _ rfl]; rfl
    have z0 : w'.heap.size < x0.heap.size := by rw [← hx0]; simp
    have hb0 : Below w'.heap.size w' x0 := hx0 ▸ (Below.refl _ _).alloc (Nat.le_refl _) _
    rw [hx0]
    clear hx0
    obtain ⟨v0, hv0⟩ : ∃ v, Value.slice Option.none 0 0 = v := ⟨_, rfl⟩
    have hown0 : x0.ownsRow x0.heap.size 5 1 v0 0 (bs []) := hv0 ▸ World.ownsRow_nil _ _ _ _
    rw [hv0]
    clear hv0
    have hc0 : Below x0.heap.size x0 x0 := Below.refl _ _
    refine wp_loop_rounds 3 ?_
    rw [rounds_succ]
    go_wp2
    rw [rounds_succ]
    go_wp2_with fail
    refine (half2 b _).mono ?_
    rintro e x ⟨rfl, hx⟩
    rw [hx, H2.out]
    clear hx x
    go_wp2
    go_ret2
    exact ⟨by rw [HE.out]; rfl, hb0.trans (hc0.mono (by omega))⟩
  · have H2 : Hid (charH (b.toNat % 16) = c2 b) := ch2_yes b hf
    by_cases hp : b.toNat / 16 = 0
    · have HE : Hid (byteQ 1 b = ([c2 b], 0)) := by show _ = _; simp only [byteQ, hf, if_pos hp]; simp
      have HQ : Hid (b.toNat / 16 = 0) := hp
      skip
      clear hf hp
      go_enter Tryd.func32, Tryd.ntmps32
      go_wp2_with fail
      refine (packed_yes 2 _ (Or.inl rfl)).mono ?_
      rintro e w' ⟨rfl, rfl⟩
      go_wp2
      obtain ⟨x0, hx0⟩ : ∃ x, w'.alloc (.cells #[.int .i64 ((b.toNat : Int) / 16), .int .i64 ((b.toNat : Int) % 16)] 3) = x := ⟨_, rfl⟩
      have e0 : x0.cell? ⟨w'.heap.size, 0, none⟩ = some (.int .i64 ((b.toNat : Int) / 16)) := by rw [← hx0, World.cell?_alloc_at _ _ _ _ rfl]; rfl
      have e1 : x0.cell? ⟨w'.heap.size, 1, none⟩ = some (.int .i64 ((b.toNat : Int) % 16)) := by rw [← hx0, World.cell?_alloc_at _ _ _ _ rfl]; rfl
      have z0 : w'.heap.size < x0.heap.size := by rw [← hx0]; simp
      have hb0 : Below w'.heap.size w' x0 := hx0 ▸ (Below.refl _ _).alloc (Nat.le_refl _) _
      rw [hx0]
      clear hx0
      obtain ⟨v0, hv0⟩ : ∃ v, Value.slice Option.none 0 0 = v := ⟨_, rfl⟩
      have hown0 : x0.ownsRow x0.heap.size 5 1 v0 0 (bs []) := hv0 ▸ World.ownsRow_nil _ _ _ _
      rw [hv0]
      clear hv0
      have hc0 : Below x0.heap.size x0 x0 := Below.refl _ _
      refine wp_loop_rounds 3 ?_
      rw [rounds_succ]
      go_wp2
      rw [rounds_succ]
      go_wp2_with fail
      refine (half2 b _).mono ?_
      rintro e x ⟨rfl, hx⟩
      rw [hx, H2.out]
      clear hx x
      have s0 := hc0.size
      go_wp2_with (at_builtin; refine wpList_append_lies _ rfl _ _ _ rfl x0.heap.size 5 i0 _ 1 1 Tryd.underlying44 hi hz0 hz1 hz2 rfl (by omega) v0 0 _ rfl (hown0.alloc _) ⟨x0.heap.size, 0, none⟩ 1 1 _ rfl (by rfl) (World.news_of_block (heap_alloc_new x0 _)) (by simp [Value.oneCell']) (by omega) (by unfold maxLen; omega) (by omega) (by first | omega | (simp <;> omega)) (x0.heap.size + 1) (by simp) ?_)
      intro g1 cap1 y1 hown1' hgrow1 hat1 hltg1
      have hown1 : y1.ownsRow x0.heap.size 5 1 (.slice (some ⟨g1, 0, none⟩) 1 cap1) 1 (bs [c2 b]) := hown1'
      have hc1 := below_app0 hc0 hc0.size hown0 hgrow1
      replace e0 : y1.cell? ⟨w'.heap.size, 0, none⟩ = some (.int .i64 ((b.toNat : Int) / 16)) := (hc1.cell (p := ⟨w'.heap.size, 0, none⟩) z0).trans ((hc0.cell (p := ⟨w'.heap.size, 0, none⟩) z0).symm.trans e0)
      replace e1 : y1.cell? ⟨w'.heap.size, 1, none⟩ = some (.int .i64 ((b.toNat : Int) % 16)) := (hc1.cell (p := ⟨w'.heap.size, 1, none⟩) z0).trans ((hc0.cell (p := ⟨w'.heap.size, 1, none⟩) z0).symm.trans e1)
      clear hown1' hgrow1 hat1 hltg1 hown0
      go_wp2
      rw [rounds_succ]
      have hcv := run_str (P := Tryd.prog) (src := 44) (dst := 9) Tryd.underlying44 Tryd.underlying5 Tryd.underlying9 hown1
      go_wp2
      all_goals first | (exfalso; have hq := HQ.out; omega) | (go_ret2; exact ⟨by rw [HE.out]; exact ret_ss rfl rfl, hb0.trans (hc1.mono (by omega))⟩)
    · have HE : Hid (byteQ 1 b = ([c2 b], 12)) := by show _ = _; simp only [byteQ, hf, if_neg hp]; simp
      have HQ : Hid (¬ b.toNat / 16 = 0) := hp
      skip
      clear hf hp
      go_enter Tryd.func32, Tryd.ntmps32
      go_wp2_with fail
      refine (packed_yes 2 _ (Or.inl rfl)).mono ?_
      rintro e w' ⟨rfl, rfl⟩
      go_wp2
      obtain ⟨x0, hx0⟩ : ∃ x, w'.alloc (.cells #[.int .i64 ((b.toNat : Int) / 16), .int .i64 ((b.toNat : Int) % 16)] 3) = x := ⟨_, rfl⟩
      have e0 : x0.cell? ⟨w'.heap.size, 0, none⟩ = some (.int .i64 ((b.toNat : Int) / 16)) := by rw [← hx0, World.cell?_alloc_at _ _ _ _ rfl]; rfl
      have e1 : x0.cell? ⟨w'.heap.size, 1, none⟩ = some (.int .i64 ((b.toNat : Int) % 16)) := by rw [← hx0, World.cell?_alloc_at _ _ _ _ rfl]; rfl
      have z0 : w'.heap.size < x0.heap.size := by rw [← hx0]; simp
      have hb0 : Below w'.heap.size w' x0 := hx0 ▸ (Below.refl _ _).alloc (Nat.le_refl _) _
      rw [hx0]
      clear hx0
      obtain ⟨v0, hv0⟩ : ∃ v, Value.slice Option.none 0 0 = v := ⟨_, rfl⟩
      have hown0 : x0.ownsRow x0.heap.size 5 1 v0 0 (bs []) := hv0 ▸ World.ownsRow_nil _ _ _ _
      rw [hv0]
      clear hv0
      have hc0 : Below x0.heap.size x0 x0 := Below.refl _ _
      refine wp_loop_rounds 3 ?_
      rw [rounds_succ]
      go_wp2
      rw [rounds_succ]
      go_wp2_with fail
      refine (half2 b _).mono ?_
      rintro e x ⟨rfl, hx⟩
      rw [hx, H2.out]
      clear hx x
      have s0 := hc0.size
      go_wp2_with (at_builtin; refine wpList_append_lies _ rfl _ _ _ rfl x0.heap.size 5 i0 _ 1 1 Tryd.underlying44 hi hz0 hz1 hz2 rfl (by omega) v0 0 _ rfl (hown0.alloc _) ⟨x0.heap.size, 0, none⟩ 1 1 _ rfl (by rfl) (World.news_of_block (heap_alloc_new x0 _)) (by simp [Value.oneCell']) (by omega) (by unfold maxLen; omega) (by omega) (by first | omega | (simp <;> omega)) (x0.heap.size + 1) (by simp) ?_)
      intro g1 cap1 y1 hown1' hgrow1 hat1 hltg1
      have hown1 : y1.ownsRow x0.heap.size 5 1 (.slice (some ⟨g1, 0, none⟩) 1 cap1) 1 (bs [c2 b]) := hown1'
      have hc1 := below_app0 hc0 hc0.size hown0 hgrow1
      replace e0 : y1.cell? ⟨w'.heap.size, 0, none⟩ = some (.int .i64 ((b.toNat : Int) / 16)) := (hc1.cell (p := ⟨w'.heap.size, 0, none⟩) z0).trans ((hc0.cell (p := ⟨w'.heap.size, 0, none⟩) z0).symm.trans e0)
      replace e1 : y1.cell? ⟨w'.heap.size, 1, none⟩ = some (.int .i64 ((b.toNat : Int) % 16)) := (hc1.cell (p := ⟨w'.heap.size, 1, none⟩) z0).trans ((hc0.cell (p := ⟨w'.heap.size, 1, none⟩) z0).symm.trans e1)
      clear hown1' hgrow1 hat1 hltg1 hown0
      go_wp2
      rw [rounds_succ]
      have hcv := run_str (P := Tryd.prog) (src := 44) (dst := 9) Tryd.underlying44 Tryd.underlying5 Tryd.underlying9 hown1
      go_wp2
      all_goals first | (exfalso; have hq := HQ.out; omega) | (go_ret2; exact ⟨by rw [HE.out]; exact ret_ss rfl rfl, hb0.trans (hc1.mono (by omega))⟩)
set_option maxRecDepth 100000 in
set_option maxHeartbeats 800000 in
theorem three_far (b : UInt8) (i : Nat) (n : Nat) (w : World) (hn : (n : Int) ≤ 9223372036854775807) (ho : ((n : Int) % 2 == 1) = true) (hi0 : ((i : Int) == (n : Int) / 2) = false) :
    Calls Tryd.prog 32 #[.int .i64 3, .int .u8 (b.toNat : Int), .int .i64 i, .int .i64 n] w (BPost (byteQ 0 b) w) := by
  show Calls _ _ _ _ fun e w' => e = _ ∧ _
  obtain ⟨i0, hi, hz0, hz1, hz2⟩ := info_parts info
  have hc := b.toNat_lt
  have p1 := c1_nat b
  have n1 : (((c1 b).toNat : Int) == 0) = false := beq_eq_false_iff_ne.mpr (by omega)
  clear p1
  have p2 := c2_nat b
  have n2 : (((c2 b).toNat : Int) == 0) = false := beq_eq_false_iff_ne.mpr (by omega)
  clear p2
  cases hf1 : hlf (c1 b)
  · have H1 : Hid (charH (b.toNat / 16) = 0) := ch1_no b hf1
    have HE : Hid (byteQ 0 b = ([], 11)) := by show _ = _; simp [byteQ, hf1]
    clear hf1
    go_enter Tryd.func32, Tryd.ntmps32
    go_wp2_with fail
    refine (packed_yes 3 _ (Or.inr rfl)).mono ?_
    rintro e w' ⟨rfl, rfl⟩
    go_wp2
    obtain ⟨x0, hx0⟩ : ∃ x, w'.alloc (.cells #[.int .i64 ((b.toNat : Int) / 16), .int .i64 ((b.toNat : Int) % 16)] 3) = x := ⟨_, rfl⟩
    have e0 : x0.cell? ⟨w'.heap.size, 0, none⟩ = some (.int .i64 ((b.toNat : Int) / 16)) := by rw [← hx0, World.cell?_alloc_at _ _ _ _ rfl]; rfl
    have e1 : x0.cell? ⟨w'.heap.size, 1, none⟩ = some (.int .i64 ((b.toNat : Int) % 16)) := by rw [← hx0, World.cell?_alloc_at _ _ _ _ rfl]; rfl
    have z0 : w'.heap.size < x0.heap.size := by rw [← hx0]; simp
    have hb0 : Below w'.heap.size w' x0 := hx0 ▸ (Below.refl _ _).alloc (Nat.le_refl _) _
    rw [hx0]
    clear hx0
    obtain ⟨v0, hv0⟩ : ∃ v, Value.slice Option.none 0 0 = v := ⟨_, rfl⟩
    have hown0 : x0.ownsRow x0.heap.size 5 1 v0 0 (bs []) := hv0 ▸ World.ownsRow_nil _ _ _ _
    rw [hv0]
    clear hv0
    have hc0 : Below x0.heap.size x0 x0 := Below.refl _ _
    refine wp_loop_rounds 3 ?_
    rw [rounds_succ]
    go_wp2_with fail
    refine (half1 b _).mono ?_
    rintro e x ⟨rfl, hx⟩
    rw [hx, H1.out]
    clear hx x
    go_wp2
    go_ret2
    exact ⟨by rw [HE.out]; rfl, hb0.trans (hc0.mono (by omega))⟩
  · have H1 : Hid (charH (b.toNat / 16) = c1 b) := ch1_yes b hf1
    cases hf2 : hlf (c2 b)
    · have H2 : Hid (charH (b.toNat % 16) = 0) := ch2_no b hf2
      have HE : Hid (byteQ 0 b = ([], 11)) := by show _ = _; simp [byteQ, hf2]
      clear hf1 hf2
      go_enter Tryd.func32, Tryd.ntmps32
      go_wp2_with fail
      refine (packed_yes 3 _ (Or.inr rfl)).mono ?_
      rintro e w' ⟨rfl, rfl⟩
      go_wp2
      obtain ⟨x0, hx0⟩ : ∃ x, w'.alloc (.cells #[.int .i64 ((b.toNat : Int) / 16), .int .i64 ((b.toNat : Int) % 16)] 3) = x := ⟨_, rfl⟩
      have e0 : x0.cell? ⟨w'.heap.size, 0, none⟩ = some (.int .i64 ((b.toNat : Int) / 16)) := by rw [← hx0, World.cell?_alloc_at _ _ _ _ rfl]; rfl
      have e1 : x0.cell? ⟨w'.heap.size, 1, none⟩ = some (.int .i64 ((b.toNat : Int) % 16)) := by rw [← hx0, World.cell?_alloc_at _ _ _ _ rfl]; rfl
      have z0 : w'.heap.size < x0.heap.size := by rw [← hx0]; simp
      have hb0 : Below w'.heap.size w' x0 := hx0 ▸ (Below.refl _ _).alloc (Nat.le_refl _) _
      rw [hx0]
      clear hx0
      obtain ⟨v0, hv0⟩ : ∃ v, Value.slice Option.none 0 0 = v := ⟨_, rfl⟩
      have hown0 : x0.ownsRow x0.heap.size 5 1 v0 0 (bs []) := hv0 ▸ World.ownsRow_nil _ _ _ _
      rw [hv0]
      clear hv0
      have hc0 : Below x0.heap.size x0 x0 := Below.refl _ _
      refine wp_loop_rounds 3 ?_
      rw [rounds_succ]
      go_wp2_with fail
      refine (half1 b _).mono ?_
      rintro e x ⟨rfl, hx⟩
      rw [hx, H1.out]
      clear hx x
      have s0 := hc0.size
      go_wp2_with (at_builtin; refine wpList_append_lies _ rfl _ _ _ rfl x0.heap.size 5 i0 _ 1 1 Tryd.underlying44 hi hz0 hz1 hz2 rfl (by omega) v0 0 _ rfl (hown0.alloc _) ⟨x0.heap.size, 0, none⟩ 1 1 _ rfl (by rfl) (World.news_of_block (heap_alloc_new x0 _)) (by simp [Value.oneCell']) (by omega) (by unfold maxLen; omega) (by omega) (by first | omega | (simp <;> omega)) (x0.heap.size + 1) (by simp) ?_)
      intro g1 cap1 y1 hown1' hgrow1 hat1 hltg1
      have hown1 : y1.ownsRow x0.heap.size 5 1 (.slice (some ⟨g1, 0, none⟩) 1 cap1) 1 (bs [c1 b]) := hown1'
      have hc1 := below_app0 hc0 hc0.size hown0 hgrow1
      replace e0 : y1.cell? ⟨w'.heap.size, 0, none⟩ = some (.int .i64 ((b.toNat : Int) / 16)) := (hc1.cell (p := ⟨w'.heap.size, 0, none⟩) z0).trans ((hc0.cell (p := ⟨w'.heap.size, 0, none⟩) z0).symm.trans e0)
      replace e1 : y1.cell? ⟨w'.heap.size, 1, none⟩ = some (.int .i64 ((b.toNat : Int) % 16)) := (hc1.cell (p := ⟨w'.heap.size, 1, none⟩) z0).trans ((hc0.cell (p := ⟨w'.heap.size, 1, none⟩) z0).symm.trans e1)
      clear hown1' hgrow1 hat1 hltg1 hown0
      go_wp2
      rw [rounds_succ]
      go_wp2_with fail
      refine (half2 b _).mono ?_
      rintro e x ⟨rfl, hx⟩
      rw [hx, H2.out]
      clear hx x
      go_wp2
      go_ret2
      exact ⟨by rw [HE.out]; rfl, hb0.trans (hc1.mono (by omega))⟩
    · have H2 : Hid (charH (b.toNat % 16) = c2 b) := ch2_yes b hf2
      have HE : Hid (byteQ 0 b = ([c1 b, c2 b], 0)) := by show _ = _; simp [byteQ, hf1, hf2]
      clear hf1 hf2
      go_enter Tryd.func32, Tryd.ntmps32
      go_wp2_with fail
      refine (packed_yes 3 _ (Or.inr rfl)).mono ?_
      rintro e w' ⟨rfl, rfl⟩
      go_wp2
      obtain ⟨x0, hx0⟩ : ∃ x, w'.alloc (.cells #[.int .i64 ((b.toNat : Int) / 16), .int .i64 ((b.toNat : Int) % 16)] 3) = x := ⟨_, rfl⟩
      have e0 : x0.cell? ⟨w'.heap.size, 0, none⟩ = some (.int .i64 ((b.toNat : Int) / 16)) := by rw [← hx0, World.cell?_alloc_at _ _ _ _ rfl]; rfl
      have e1 : x0.cell? ⟨w'.heap.size, 1, none⟩ = some (.int .i64 ((b.toNat : Int) % 16)) := by rw [← hx0, World.cell?_alloc_at _ _ _ _ rfl]; rfl
      have z0 : w'.heap.size < x0.heap.size := by rw [← hx0]; simp
      have hb0 : Below w'.heap.size w' x0 := hx0 ▸ (Below.refl _ _).alloc (Nat.le_refl _) _
      rw [hx0]
      clear hx0
      obtain ⟨v0, hv0⟩ : ∃ v, Value.slice Option.none 0 0 = v := ⟨_, rfl⟩
      have hown0 : x0.ownsRow x0.heap.size 5 1 v0 0 (bs []) := hv0 ▸ World.ownsRow_nil _ _ _ _
      rw [hv0]
      clear hv0
      have hc0 : Below x0.heap.size x0 x0 := Below.refl _ _
      refine wp_loop_rounds 3 ?_
      rw [rounds_succ]
      go_wp2_with fail
      refine (half1 b _).mono ?_
      rintro e x ⟨rfl, hx⟩
      rw [hx, H1.out]
      clear hx x
      have s0 := hc0.size
      go_wp2_with (at_builtin; refine wpList_append_lies _ rfl _ _ _ rfl x0.heap.size 5 i0 _ 1 1 Tryd.underlying44 hi hz0 hz1 hz2 rfl (by omega) v0 0 _ rfl (hown0.alloc _) ⟨x0.heap.size, 0, none⟩ 1 1 _ rfl (by rfl) (World.news_of_block (heap_alloc_new x0 _)) (by simp [Value.oneCell']) (by omega) (by unfold maxLen; omega) (by omega) (by first | omega | (simp <;> omega)) (x0.heap.size + 1) (by simp) ?_)
      intro g1 cap1 y1 hown1' hgrow1 hat1 hltg1
      have hown1 : y1.ownsRow x0.heap.size 5 1 (.slice (some ⟨g1, 0, none⟩) 1 cap1) 1 (bs [c1 b]) := hown1'
      have hc1 := below_app0 hc0 hc0.size hown0 hgrow1
      replace e0 : y1.cell? ⟨w'.heap.size, 0, none⟩ = some (.int .i64 ((b.toNat : Int) / 16)) := (hc1.cell (p := ⟨w'.heap.size, 0, none⟩) z0).trans ((hc0.cell (p := ⟨w'.heap.size, 0, none⟩) z0).symm.trans e0)
      replace e1 : y1.cell? ⟨w'.heap.size, 1, none⟩ = some (.int .i64 ((b.toNat : Int) % 16)) := (hc1.cell (p := ⟨w'.heap.size, 1, none⟩) z0).trans ((hc0.cell (p := ⟨w'.heap.size, 1, none⟩) z0).symm.trans e1)
      clear hown1' hgrow1 hat1 hltg1 hown0
      go_wp2
      rw [rounds_succ]
      go_wp2_with fail
      refine (half2 b _).mono ?_
      rintro e x ⟨rfl, hx⟩
      rw [hx, H2.out]
      clear hx x
      have s1 := hc1.size
      go_wp2_with (at_builtin; refine wpList_append_lies _ rfl _ _ _ rfl x0.heap.size 5 i0 _ 1 1 Tryd.underlying44 hi hz0 hz1 hz2 rfl (by omega) (.slice (some ⟨g1, 0, none⟩) 1 cap1) 1 _ rfl (hown1.alloc _) ⟨y1.heap.size, 0, none⟩ 1 1 _ rfl (by rfl) (World.news_of_block (heap_alloc_new y1 _)) (by simp [Value.oneCell']) (by omega) (by unfold maxLen; omega) (by omega) (by first | omega | (simp <;> omega)) (y1.heap.size + 1) (by simp) ?_)
      intro g2 cap2 y2 hown2' hgrow2 hat2 hltg2
      have hown2 : y2.ownsRow x0.heap.size 5 1 (.slice (some ⟨g2, 0, none⟩) 2 cap2) 2 (bs [c1 b, c2 b]) := hown2'
      have hc2 := below_app0 hc1 hc1.size hown1 hgrow2
      replace e0 : y2.cell? ⟨w'.heap.size, 0, none⟩ = some (.int .i64 ((b.toNat : Int) / 16)) := (hc2.cell (p := ⟨w'.heap.size, 0, none⟩) z0).trans ((hc1.cell (p := ⟨w'.heap.size, 0, none⟩) z0).symm.trans e0)
      replace e1 : y2.cell? ⟨w'.heap.size, 1, none⟩ = some (.int .i64 ((b.toNat : Int) % 16)) := (hc2.cell (p := ⟨w'.heap.size, 1, none⟩) z0).trans ((hc1.cell (p := ⟨w'.heap.size, 1, none⟩) z0).symm.trans e1)
      clear hown2' hgrow2 hat2 hltg2 hown1
      go_wp2
      rw [rounds_succ]
      have hcv := run_str (P := Tryd.prog) (src := 44) (dst := 9) Tryd.underlying44 Tryd.underlying5 Tryd.underlying9 hown2
      go_wp2
      go_ret2
      exact ⟨by rw [HE.out]; exact ret_ss rfl rfl, hb0.trans (hc2.mono (by omega))⟩
set_option maxRecDepth 100000 in
set_option maxHeartbeats 800000 in
theorem three_at (b : UInt8) (i : Nat) (n : Nat) (w : World) (hn : (n : Int) ≤ 9223372036854775807) (ho : ((n : Int) % 2 == 1) = true) (hi0 : ((i : Int) == (n : Int) / 2) = true) :
    Calls Tryd.prog 32 #[.int .i64 3, .int .u8 (b.toNat : Int), .int .i64 i, .int .i64 n] w (BPost (byteQ 2 b) w) := by
  show Calls _ _ _ _ fun e w' => e = _ ∧ _
  obtain ⟨i0, hi, hz0, hz1, hz2⟩ := info_parts info
  have hc := b.toNat_lt
  have p1 := c1_nat b
  have n1 : (((c1 b).toNat : Int) == 0) = false := beq_eq_false_iff_ne.mpr (by omega)
  clear p1
  cases hf : hlf (c1 b)
  · have H1 : Hid (charH (b.toNat / 16) = 0) := ch1_no b hf
    have HE : Hid (byteQ 2 b = ([], 11)) := by show _ = _; simp [byteQ, hf]
    clear hf
    go_enter Tryd.func32, Tryd.ntmps32
    go_wp2_with fail
    refine (packed_yes 3 _ (Or.inr rfl)).mono ?_
    rintro e w' ⟨rfl, rfl⟩
    go_wp2
    obtain ⟨x0, hx0⟩ : ∃ x, w'.alloc (.cells #[.int .i64 ((b.toNat : Int) / 16), .int .i64 ((b.toNat : Int) % 16)] 3) = x := ⟨_, rfl⟩
    have e0 : x0.cell? ⟨w'.heap.size, 0, none⟩ = some (.int .i64 ((b.toNat : Int) / 16)) := by rw [← hx0, World.cell?_alloc_at _ _ _ _ rfl]; rfl
    have e1 : x0.cell? ⟨w'.heap.size, 1, none⟩ = some (.int .i64 ((b.toNat : Int) % 16)) := by rw [← hx0, World.cell?_alloc_at _ _ _ _ rfl]; rfl
    have z0 : w'.heap.size < x0.heap.size := by rw [← hx0]; simp
    have hb0 : Below w'.heap.size w' x0 := hx0 ▸ (Below.refl _ _).alloc (Nat.le_refl _) _
    rw [hx0]
    clear hx0
    obtain ⟨v0, hv0⟩ : ∃ v, Value.slice Option.none 0 0 = v := ⟨_, rfl⟩
    have hown0 : x0.ownsRow x0.heap.size 5 1 v0 0 (bs []) := hv0 ▸ World.ownsRow_nil _ _ _ _
    rw [hv0]
    clear hv0
    have hc0 : Below x0.heap.size x0 x0 := Below.refl _ _
    refine wp_loop_rounds 3 ?_
    rw [rounds_succ]
    go_wp2_with fail
    refine (half1 b _).mono ?_
    rintro e x ⟨rfl, hx⟩
    rw [hx, H1.out]
    clear hx x
    go_wp2
    go_ret2
    exact ⟨by rw [HE.out]; rfl, hb0.trans (hc0.mono (by omega))⟩
  · have H1 : Hid (charH (b.toNat / 16) = c1 b) := ch1_yes b hf
    by_cases hp : b.toNat % 16 = 15
    · have HE : Hid (byteQ 2 b = ([c1 b], 0)) := by show _ = _; simp only [byteQ, hf, if_pos hp]; simp
      have HQ : Hid (b.toNat % 16 = 15) := hp
      have q : ((b.toNat : Int) % 16 == 15) = true := beq_iff_eq.mpr (by omega)
      clear hf hp
      go_enter Tryd.func32, Tryd.ntmps32
      go_wp2_with fail
      refine (packed_yes 3 _ (Or.inr rfl)).mono ?_
      rintro e w' ⟨rfl, rfl⟩
      go_wp2
      obtain ⟨x0, hx0⟩ : ∃ x, w'.alloc (.cells #[.int .i64 ((b.toNat : Int) / 16), .int .i64 ((b.toNat : Int) % 16)] 3) = x := ⟨_, rfl⟩
      have e0 : x0.cell? ⟨w'.heap.size, 0, none⟩ = some (.int .i64 ((b.toNat : Int) / 16)) := by rw [← hx0, World.cell?_alloc_at _ _ _ _ rfl]; rfl
      have e1 : x0.cell? ⟨w'.heap.size, 1, none⟩ = some (.int .i64 ((b.toNat : Int) % 16)) := by rw [← hx0, World.cell?_alloc_at _ _ _ _ rfl]; rfl
      have z0 : w'.heap.size < x0.heap.size := by rw [← hx0]; simp
      have hb0 : Below w'.heap.size w' x0 := hx0 ▸ (Below.refl _ _).alloc (Nat.le_refl _) _
      rw [hx0]
      clear hx0
      obtain ⟨v0, hv0⟩ : ∃ v, Value.slice Option.none 0 0 = v := ⟨_, rfl⟩
      have hown0 : x0.ownsRow x0.heap.size 5 1 v0 0 (bs []) := hv0 ▸ World.ownsRow_nil _ _ _ _
      rw [hv0]
      clear hv0
      have hc0 : Below x0.heap.size x0 x0 := Below.refl _ _
      refine wp_loop_rounds 3 ?_
      rw [rounds_succ]
      go_wp2_with fail
      refine (half1 b _).mono ?_
      rintro e x ⟨rfl, hx⟩
      rw [hx, H1.out]
      clear hx x
      have s0 := hc0.size
      go_wp2_with (at_builtin; refine wpList_append_lies _ rfl _ _ _ rfl x0.heap.size 5 i0 _ 1 1 Tryd.underlying44 hi hz0 hz1 hz2 rfl (by omega) v0 0 _ rfl (hown0.alloc _) ⟨x0.heap.size, 0, none⟩ 1 1 _ rfl (by rfl) (World.news_of_block (heap_alloc_new x0 _)) (by simp [Value.oneCell']) (by omega) (by unfold maxLen; omega) (by omega) (by first | omega | (simp <;> omega)) (x0.heap.size + 1) (by simp) ?_)
      intro g1 cap1 y1 hown1' hgrow1 hat1 hltg1
      have hown1 : y1.ownsRow x0.heap.size 5 1 (.slice (some ⟨g1, 0, none⟩) 1 cap1) 1 (bs [c1 b]) := hown1'
      have hc1 := below_app0 hc0 hc0.size hown0 hgrow1
      replace e0 : y1.cell? ⟨w'.heap.size, 0, none⟩ = some (.int .i64 ((b.toNat : Int) / 16)) := (hc1.cell (p := ⟨w'.heap.size, 0, none⟩) z0).trans ((hc0.cell (p := ⟨w'.heap.size, 0, none⟩) z0).symm.trans e0)
      replace e1 : y1.cell? ⟨w'.heap.size, 1, none⟩ = some (.int .i64 ((b.toNat : Int) % 16)) := (hc1.cell (p := ⟨w'.heap.size, 1, none⟩) z0).trans ((hc0.cell (p := ⟨w'.heap.size, 1, none⟩) z0).symm.trans e1)
      clear hown1' hgrow1 hat1 hltg1 hown0
      go_wp2
      rw [rounds_succ]
      go_wp2
      rw [rounds_succ]
      have hcv := run_str (P := Tryd.prog) (src := 44) (dst := 9) Tryd.underlying44 Tryd.underlying5 Tryd.underlying9 hown1
      go_wp2
      all_goals first | (exfalso; have hq := HQ.out; omega) | (go_ret2; exact ⟨by rw [HE.out]; exact ret_ss rfl rfl, hb0.trans (hc1.mono (by omega))⟩)
    · have HE : Hid (byteQ 2 b = ([c1 b], 12)) := by show _ = _; simp only [byteQ, hf, if_neg hp]; simp
      have HQ : Hid (¬ b.toNat % 16 = 15) := hp
      have q : ((b.toNat : Int) % 16 == 15) = false := beq_eq_false_iff_ne.mpr (by omega)
      clear hf hp
      go_enter Tryd.func32, Tryd.ntmps32
      go_wp2_with fail
      refine (packed_yes 3 _ (Or.inr rfl)).mono ?_
      rintro e w' ⟨rfl, rfl⟩
      go_wp2
      obtain ⟨x0, hx0⟩ : ∃ x, w'.alloc (.cells #[.int .i64 ((b.toNat : Int) / 16), .int .i64 ((b.toNat : Int) % 16)] 3) = x := ⟨_, rfl⟩
      have e0 : x0.cell? ⟨w'.heap.size, 0, none⟩ = some (.int .i64 ((b.toNat : Int) / 16)) := by rw [← hx0, World.cell?_alloc_at _ _ _ _ rfl]; rfl
      have e1 : x0.cell? ⟨w'.heap.size, 1, none⟩ = some (.int .i64 ((b.toNat : Int) % 16)) := by rw [← hx0, World.cell?_alloc_at _ _ _ _ rfl]; rfl
      have z0 : w'.heap.size < x0.heap.size := by rw [← hx0]; simp
      have hb0 : Below w'.heap.size w' x0 := hx0 ▸ (Below.refl _ _).alloc (Nat.le_refl _) _
      rw [hx0]
      clear hx0
      obtain ⟨v0, hv0⟩ : ∃ v, Value.slice Option.none 0 0 = v := ⟨_, rfl⟩
      have hown0 : x0.ownsRow x0.heap.size 5 1 v0 0 (bs []) := hv0 ▸ World.ownsRow_nil _ _ _ _
      rw [hv0]
      clear hv0
      have hc0 : Below x0.heap.size x0 x0 := Below.refl _ _
      refine wp_loop_rounds 3 ?_
      rw [rounds_succ]
      go_wp2_with fail
      refine (half1 b _).mono ?_
      rintro e x ⟨rfl, hx⟩
      rw [hx, H1.out]
      clear hx x
      have s0 := hc0.size
      go_wp2_with (at_builtin; refine wpList_append_lies _ rfl _ _ _ rfl x0.heap.size 5 i0 _ 1 1 Tryd.underlying44 hi hz0 hz1 hz2 rfl (by omega) v0 0 _ rfl (hown0.alloc _) ⟨x0.heap.size, 0, none⟩ 1 1 _ rfl (by rfl) (World.news_of_block (heap_alloc_new x0 _)) (by simp [Value.oneCell']) (by omega) (by unfold maxLen; omega) (by omega) (by first | omega | (simp <;> omega)) (x0.heap.size + 1) (by simp) ?_)
      intro g1 cap1 y1 hown1' hgrow1 hat1 hltg1
      have hown1 : y1.ownsRow x0.heap.size 5 1 (.slice (some ⟨g1, 0, none⟩) 1 cap1) 1 (bs [c1 b]) := hown1'
      have hc1 := below_app0 hc0 hc0.size hown0 hgrow1
      replace e0 : y1.cell? ⟨w'.heap.size, 0, none⟩ = some (.int .i64 ((b.toNat : Int) / 16)) := (hc1.cell (p := ⟨w'.heap.size, 0, none⟩) z0).trans ((hc0.cell (p := ⟨w'.heap.size, 0, none⟩) z0).symm.trans e0)
      replace e1 : y1.cell? ⟨w'.heap.size, 1, none⟩ = some (.int .i64 ((b.toNat : Int) % 16)) := (hc1.cell (p := ⟨w'.heap.size, 1, none⟩) z0).trans ((hc0.cell (p := ⟨w'.heap.size, 1, none⟩) z0).symm.trans e1)
      clear hown1' hgrow1 hat1 hltg1 hown0
      go_wp2
      rw [rounds_succ]
      go_wp2
      rw [rounds_succ]
      have hcv := run_str (P := Tryd.prog) (src := 44) (dst := 9) Tryd.underlying44 Tryd.underlying5 Tryd.underlying9 hown1
      go_wp2
      all_goals first | (exfalso; have hq := HQ.out; omega) | (go_ret2; exact ⟨by rw [HE.out]; exact ret_ss rfl rfl, hb0.trans (hc1.mono (by omega))⟩)
theorem odd_of (n : Nat) (h : n % 2 = 1) : ((n : Int) % 2 == 1) = true := beq_iff_eq.mpr (by omega)
theorem byte_any (enc : Int) (b : UInt8) (i n : Nat) (w : World) (h : 1 ≤ enc ∧ enc ≤ 5) (hn : (n : Int) ≤ 9223372036854775807) :
    Calls Tryd.prog 32 #[.int .i64 enc, .int .u8 (b.toNat : Int), .int .i64 i, .int .i64 n] w (BPost (byteF enc n i b) w) := by
  unfold byteF
  by_cases h2 : enc = 2 ∨ enc = 3
  · rw [if_pos h2]
    by_cases ho : n % 2 = 0
    · have := two_even enc b i n w h2 (beq_eq_false_iff_ne.mpr (by omega))
      rwa [show holeAt enc n i = 0 by simp [holeAt, ho]]
    · rcases h2 with rfl | rfl
      · by_cases h0 : i = 0
        · subst h0
          rw [show holeAt 2 n 0 = 1 by simp [holeAt, ho]]
          exact two_at b n w (odd_of n (by omega))
        · rw [show holeAt 2 n i = 0 by simp [holeAt, ho, h0]]
          exact two_far b i n w (odd_of n (by omega)) (beq_eq_false_iff_ne.mpr (by omega))
      · by_cases h0 : i = n / 2
        · rw [show holeAt 3 n i = 2 by simp [holeAt, ho, h0]]
          exact three_at b i n w hn (odd_of n (by omega)) (beq_iff_eq.mpr (by omega))
        · rw [show holeAt 3 n i = 0 by simp [holeAt, ho, h0]]
          exact three_far b i n w hn (odd_of n (by omega)) (beq_eq_false_iff_ne.mpr (by omega))
  · rw [if_neg h2]
    exact byte_one enc b i n w (by omega)
end Go.Proofs.YtekbonfaaofdiaaDoor.Byt
