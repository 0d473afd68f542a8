/- StanBack: the law's message. -/
import Derived.Test.YtmnoplaepjaokaaGreatDoorBc
namespace Go.Proofs.YtmnoplaepjaokaaGreatDoor.Bd
set_option linter.unusedVariables false
set_option linter.unusedSimpArgs false
open Go.RowKit Go.Maps Lib0 Kb Xp Ic Ix If Ig Za Zb Zc Zd Ze Zg Zh Ba Bb Bc
structure Jq (w0 x : World) (g6 g8 : Nat) (mti : ByteArray) (v : Value) (M : List Fl) : Prop where
  c8 : x.heap[g8]? = some (.cells #[.string mti, v] tG)
  c6 : x.heap[g6]? = some (.cells #[.string ⟨#[]⟩, .slice none 0 0] tG)
  row : x.ownsRow w0.heap.size tF 3 v M.length (fc M)
  bel : Below w0.heap.size w0 x
  b8 : w0.heap.size ≤ g8
  b6 : w0.heap.size ≤ g6
  ne : g6 ≠ g8
section
variable {w0 x y : World} {g6 g8 : Nat} {mti : ByteArray} {v : Value} {M : List Fl}
theorem Jq.keep (h : Jq w0 x g6 g8 mti v M) (k : ∀ g, g < x.heap.size → y.heap[g]? = x.heap[g]?) (hb : Below w0.heap.size w0 y) : Jq w0 y g6 g8 mti v M := by
  refine ⟨(k _ (Array.getElem?_eq_some_iff.1 h.c8).1).trans h.c8, (k _ (Array.getElem?_eq_some_iff.1 h.c6).1).trans h.c6, own_keep h.row fun g hg => ?_, hb, h.b8, h.b6, h.ne⟩
  obtain ⟨cy, hcy⟩ := own_ty h.row hg
  exact k g (Array.getElem?_eq_some_iff.1 hcy).1
theorem Jq.below (h : Jq w0 x g6 g8 mti v M) (k : Below x.heap.size x y) : Jq w0 y g6 g8 mti v M :=
  h.keep (fun g hg => k.block g hg) (h.bel.trans (k.mono h.bel.size))
theorem Jq.cell8 (h : Jq w0 x g6 g8 mti v M) : x.cell? ⟨g8, 0, none⟩ = some (.string mti) ∧ x.cell? ⟨g8, 1, none⟩ = some v ∧ x.frozen? ⟨g8, 1, none⟩ = false := by
  have := h.c8
  exact ⟨by simp [World.cell?, this], by simp [World.cell?, this], frozen_of_row x _ _ _ _ this⟩
theorem Jq.ne8 (h : Jq w0 x g6 g8 mti v M) : v.ownBlock ≠ some g8 ∧ v.ownBlock ≠ some g6 := by
  refine ⟨fun e => ?_, fun e => ?_⟩
  · obtain ⟨cy, hcy⟩ := own_ty h.row e
    rw [h.c8] at hcy
    injection hcy with hcy; injection hcy with _ hcy; exact absurd hcy (by decide)
  · obtain ⟨cy, hcy⟩ := own_ty h.row e
    rw [h.c6] at hcy
    injection hcy with hcy; injection hcy with _ hcy; exact absurd hcy (by decide)
/-- the world behind an append to the row -/
theorem Jq.grown (h : Jq w0 x g6 g8 mti v M) (hg : x.grownBy y v.ownBlock) : y.heap[g8]? = some (.cells #[.string mti, v] tG) ∧ y.heap[g6]? = some (.cells #[.string ⟨#[]⟩, .slice none 0 0] tG) ∧ Below w0.heap.size w0 y := by
  obtain ⟨n8, n6⟩ := h.ne8
  refine ⟨(hg.block _ (Array.getElem?_eq_some_iff.1 h.c8).1 (fun e => n8 e.symm)).trans h.c8, (hg.block _ (Array.getElem?_eq_some_iff.1 h.c6).1 (fun e => n6 e.symm)).trans h.c6, ?_⟩
  have hB : ∀ g, v.ownBlock = some g → w0.heap.size ≤ g := fun g hg2 => by
    rcases h.row.2 with ⟨rfl, _⟩ | ⟨g', cap, cur, rfl, hb, _⟩
    · simp [Value.ownBlock] at hg2
    · have : g' = g := by simpa [Value.ownBlock] using hg2
      omega
  exact ⟨hg.os.trans h.bel.os, hg.tape.trans h.bel.tape, hg.output.trans h.bel.output, Nat.le_trans h.bel.size hg.size, fun g hlt => (hg.block g (Nat.lt_of_lt_of_le hlt h.bel.size) (fun e => by have := hB g e.symm; omega)).trans (h.bel.block g hlt)⟩
theorem Jq.push (h : Jq w0 x g6 g8 mti v M) (hg : x.grownBy y v.ownBlock) {gg cap : Nat} {f : Fl} (ho : y.ownsRow w0.heap.size tF 3 (.slice (some ⟨gg, 0, none⟩) (M.length + 1) cap) (M.length + 1) (fc M ++ fc [f])) : Jq w0 (y.setCell ⟨g8, 1, none⟩ (.slice (some ⟨gg, 0, none⟩) (M.length + 1) cap)) g6 g8 mti (.slice (some ⟨gg, 0, none⟩) (M.length + 1) cap) (M ++ [f]) := by
  obtain ⟨k8, k6, kb⟩ := h.grown hg
  have hne : ∀ k, k ≠ g8 → (y.setCell ⟨g8, 1, none⟩ (.slice (some ⟨gg, 0, none⟩) (M.length + 1) cap)).heap[k]? = y.heap[k]? := fun k hk => setCell_ne (p := ⟨g8, 1, none⟩) (fun e => hk e.symm) _
  refine ⟨setCell_heap k8 1 _, (hne _ h.ne).trans k6, ?_, kb.setCell h.b8 _, h.b8, h.b6, h.ne⟩
  rw [List.length_append, fc_append]
  refine own_keep ho fun g hgb => hne g (fun e => ?_)
  obtain ⟨cy, hcy⟩ := own_ty ho hgb
  rw [e, k8] at hcy
  injection hcy with hcy; injection hcy with _ hcy; exact absurd hcy (by decide)
end
/-- is a number among those of raw numbers? -/
def isIn (raw : List Int) (n : Int) : Bool := (raw.map fld).contains n
theorem isIn_snoc (raw : List Int) (k : Nat) (h : k < raw.length) (n : Int) : isIn (raw.take (k + 1)) n = (isIn (raw.take k) n || fld raw[k] == n) := by
  have e : (fld raw[k] == n) = (n == fld raw[k]) := by rw [Bool.eq_iff_iff, beq_iff_eq, beq_iff_eq]; exact eq_comm
  rw [e, isIn, isIn, List.take_succ_eq_append_getElem h, List.map_append]
  simp only [List.contains_append, List.map_cons, List.map_nil, List.contains_cons, List.contains_nil, Bool.or_false]
/-- the value of a field -/
def vl (val : ByteArray) (n : Nat) : ByteArray := val ++ ⟨#[UInt8.ofNat (33 + n % 90)]⟩
def ml (raw : List Int) (val : ByteArray) : Nat → List Fl
  | 0 => []
  | k + 1 => if isIn (raw.take 40) ((k + 2 : Nat) : Int) then ml raw val k ++ [(((k + 2 : Nat) : Int), vl val (k + 2))] else ml raw val k
theorem ml_len (raw : List Int) (val : ByteArray) : ∀ k, (ml raw val k).length ≤ k
  | 0 => Nat.le_refl _
  | k + 1 => by
    have := ml_len raw val k
    unfold ml
    split
    · rw [List.length_append]; simp; omega
    · omega
theorem isIn_ne (raw : List Int) (n : Int) (h : isIn raw n = true) : isF n = true := by
  unfold isIn at h
  rw [List.contains_iff_mem, List.mem_map] at h
  obtain ⟨x, _, rfl⟩ := h
  exact fld_is x
theorem add_zero1 (g : Nat) : (⟨g, 0, none⟩ : Addr).add 0 = ⟨g, 0, none⟩ := by unfold Addr.add; split <;> simp_all
theorem conv_one (y : World) (g n : Nat) (hg : y.heap[g]? = some (Obj.cells #[.int .u8 (33 + (n : Int) % 90)] 5)) : (convert 110 9 (.slice (some ⟨g, 0, none⟩) 1 1)).run Tryz.prog y = .ok (.string ⟨#[UInt8.ofNat (33 + n % 90)]⟩) y :=
  run_convert_bytes_back (P := Tryz.prog) y 110 9 5 ⟨g, 0, none⟩ 1 [UInt8.ofNat (33 + n % 90)] Tryz.underlying110 Tryz.underlying5 Tryz.underlying9 (fun j hj => by
    have : j = 0 := by simpa using hj
    subst this
    have e : (UInt8.ofNat (33 + n % 90)).toNat = 33 + n % 90 := by
      rw [UInt8.toNat_ofNat']
      have := Nat.mod_lt n (show 0 < 90 by decide)
      omega
    have e2 : (33 + (n : Int) % 90) = ((33 + n % 90 : Nat) : Int) := by omega
    rw [e2] at hg
    show y.cell? ((⟨g, 0, none⟩ : Addr).add 0) = some (.int .u8 ((UInt8.ofNat (33 + n % 90)).toNat : Int))
    rw [e, add_zero1, cell_of_row y g 0 _ _ _ hg]
    rfl)
theorem vl_size (val : ByteArray) (n : Nat) : (vl val n).size = val.size + 1 := by
  unfold vl
  rw [ByteArray.size_append]; rfl
set_option maxRecDepth 100000 in
set_option maxHeartbeats 1600000 in
theorem message_any (mti : ByteArray) (v : Value) (raw : List Int) (val : ByteArray) (hv : val.size ≤ 2000) (w : World) (h : RowI w v raw) (hr : ∀ x ∈ raw, -9223372036854775808 ≤ x ∧ x ≤ 9223372036854775807) : Calls Tryz.prog 30 #[.string mti, v, .string val] w (PostM w mti (ml raw val 127)) := by
  obtain ⟨o, cap, rfl, hc⟩ := h
  obtain ⟨N, HN⟩ : ∃ N, Hid (raw.length = N) := ⟨_, rfl⟩
  have HC : Hid (∀ i (h : i < raw.length), ∃ a : Addr, o = some a ∧ w.cell? (a.add i) = some (.int .i64 raw[i])) := hc
  have HB : Hid (∀ x ∈ raw, -9223372036854775808 ≤ x ∧ x ≤ 9223372036854775807) := hr
  rw [HN.out]
  have HJ0 : Hid (Jq w ((w.alloc (.cells #[.string ⟨#[]⟩, .slice none 0 0] tG)).alloc (.cells #[.string mti, .slice none 0 0] tG)) w.heap.size (w.heap.size + 1) mti (.slice none 0 0) []) := ⟨h2_1 w _ _, h2_0 w _ _, World.ownsRow_nil _ _ _ _, below_two w _ _, by omega, by omega, by omega⟩
  clear hc hr
  go_enter Tryz.func30, Tryz.ntmps30
  go_wp2_with fail
  generalize (w.alloc (.cells #[.string ⟨#[]⟩, .slice none 0 0] tG)).alloc (.cells #[.string mti, .slice none 0 0] tG) = y3 at *
  go_loopw [8] (fun nv wr => ∃ k : Nat, nv = .int .i64 ((k + 2 : Nat) : Int) ∧ k ≤ 127 ∧ Hid (∃ v', Jq w wr w.heap.size (w.heap.size + 1) mti v' (ml raw val k) ∧ (ml raw val k = [] → v' = .slice none 0 0))) (fun nv _ => 130 - (intOf nv).toNat)
  case atStart => exact ⟨0, rfl, Nat.zero_le _, ⟨_, HJ0.out, fun _ => rfl⟩⟩
  case round =>
    obtain ⟨k, rfl, hk, HJ⟩ := hrel
    obtain ⟨n, Hn⟩ : ∃ n, Hid (k + 2 = n) := ⟨_, rfl⟩
    rw [Hn.out]
    have hn2 : (2 : Int) ≤ (n : Int) := by have := Hn.out; omega
    have HK : Hid (k ≤ 127) := hk
    by_cases hlt : n ≤ 128
    · have q0 : (n : Int) ≤ 128 := by omega
      have HNN : Hid (n ≤ 128) := hlt
      clear hk hlt
      obtain ⟨wq, ew⟩ : ∃ x, x = wr := ⟨_, rfl⟩
      subst ew
      have HBW : Hid (Below w.heap.size w wq) := by obtain ⟨v', hJ, _⟩ := HJ.out; exact hJ.bel
      go_wp2_with fail
      go_loopw [9, 10] (fun bv iv wr => ∃ (i : Nat) (B : Bool), iv = .int .i64 (i : Int) ∧ i ≤ N ∧ i ≤ 40 ∧ bv = .bool B ∧ Hid (isIn (raw.take i) (n : Int) = B) ∧ wr = wq) (fun _ iv _ => 41 - (intOf iv).toNat)
      case atStart => exact ⟨0, false, rfl, Nat.zero_le _, Nat.zero_le _, rfl, rfl, rfl⟩
      case round =>
        obtain ⟨i, B, rfl, hi1, hi2, rfl, HI, rfl⟩ := hrel
        have q1 : (0 : Int) ≤ (i : Int) := by omega
        have q2 : (i : Int) ≤ 40 := by omega
        by_cases hend : i < N ∧ i < 40
        · have q3 : (i : Int) < (N : Int) := by omega
          have q4 : (i : Int) < 40 := by omega
          have hir : i < raw.length := by rw [HN.out]; exact hend.1
          obtain ⟨a, rfl, c0⟩ := HC.out i hir
          have c1 : wr.cell? (a.add i) = some (.int .i64 raw[i]) := (HBW.out.cell (World.block_lt_of_cell? w _ c0)).trans c0
          have HIN : Hid (i < N ∧ i < 40) := hend
          have HXB := HB.out raw[i] (List.getElem_mem hir)
          have HS : Hid (isIn (raw.take (i + 1)) (n : Int) = (B || fld raw[i] == (n : Int))) := by
            have := isIn_snoc raw i hir (n : Int)
            rw [HI.out] at this
            exact this
          obtain ⟨c, Hc⟩ : ∃ c, Hid (raw[i]'hir = c) := ⟨raw[i]'hir, rfl⟩
          rw [Hc.out] at c1 HXB HS
          have HF := field_any c HXB wr
          obtain ⟨f, HFe⟩ : ∃ f, Hid (fld c = f) := ⟨_, rfl⟩
          rw [HFe.out] at HF HS
          clear HXB c0 hir hend hi1 hi2 Hc HFe HI
          cases B
          · go_wp2_with fail
            refine HF.mono ?_
            rintro e y ⟨rfl, hy⟩
            rw [hy]
            clear hy HF
            by_cases e : f = (n : Int)
            · subst e
              have HK3 : Hid (isIn (raw.take (i + 1)) (n : Int) = true) := by
                show _ = true
                rw [HS.out]; simp
              clear HS
              go_wp2_with fail
              have := HIN.out
              exact ⟨⟨i + 1, true, by simp, by omega, by omega, rfl, HK3, trivial⟩, by simp only [intOf]; omega⟩
            · have e2 : (f == (n : Int)) = false := by simpa using e
              have HK3 : Hid (isIn (raw.take (i + 1)) (n : Int) = false) := by
                have := HS.out
                rw [e2] at this
                exact this
              clear HS e
              go_wp2_with fail
              have := HIN.out
              exact ⟨⟨i + 1, false, by simp, by omega, by omega, rfl, HK3, trivial⟩, by simp only [intOf]; omega⟩
          · have HK3 : Hid (isIn (raw.take (i + 1)) (n : Int) = true) := by
              show _ = true
              rw [HS.out]; simp
            clear HS HF
            go_wp2_with fail
            have := HIN.out
            exact ⟨⟨i + 1, true, by simp, by omega, by omega, rfl, HK3, trivial⟩, by simp only [intOf]; omega⟩
        · have HIA : Hid (isIn (raw.take 40) (n : Int) = B) := by
            have e : raw.take 40 = raw.take i := by
              by_cases e : i = 40
              · rw [e]
              · have : raw.length ≤ i := by rw [HN.out]; omega
                rw [List.take_of_length_le this, List.take_of_length_le (by omega)]
            show _ = _
            rw [e]; exact HI.out
          clear HI
          by_cases hNi : i < N
          · have q3 : (i : Int) < (N : Int) := by omega
            have q4 : (40 : Int) ≤ (i : Int) := by omega
            clear hi1 hi2 hend hNi q1 q2
            cases B
            · have HM : Hid (ml raw val (k + 1) = ml raw val k) := by
                show _ = _
                rw [ml, Hn.out, HIA.out]; rfl
              go_wp2_with fail
              have := HNN.out
              have := Hn.out
              exact ⟨⟨k + 1, by simp; omega, by omega, by rw [HM.out]; exact HJ⟩, by simp only [intOf]; omega⟩
            · have HM : Hid (ml raw val (k + 1) = ml raw val k ++ [((n : Int), vl val n)]) := by
                show _ = _
                rw [ml, Hn.out, HIA.out]; rfl
              have n65 : ((n : Int) != 65) = true := by
                have := isIn_ne _ _ HIA.out
                rw [bne_iff_ne]
                intro e
                rw [e] at this
                exact absurd this (by decide)
              obtain ⟨v', hJ, hnil⟩ := HJ.out
              have HNL : Hid (ml raw val k = [] → v' = .slice none 0 0) := hnil
              have hml := ml_len raw val k
              generalize ml raw val k = M at *
              have HML : Hid (M.length ≤ 127) := by have := HK.out; show _ ≤ _; omega
              obtain ⟨k0, k1, k1f⟩ := hJ.cell8
              have HJ1 : Hid (Jq w wr w.heap.size (w.heap.size + 1) mti v' M) := hJ
              clear hJ hnil HJ hml
              obtain ⟨i0, hi, hz0, hz1, hz2⟩ := infoF3
              have cv := conv_one (wr.alloc (Obj.cells #[.int .u8 (33 + (n : Int) % 90)] 5)) wr.heap.size n (h1_0 wr _)
              have HVL : Hid (val ++ (⟨#[UInt8.ofNat (33 + n % 90)]⟩ : ByteArray) = vl val n) := rfl
              have g1 : ¬ 9223372036854775807 < val.size + (⟨#[UInt8.ofNat (33 + n % 90)]⟩ : ByteArray).size := by show ¬ 9223372036854775807 < val.size + 1; omega
              generalize (⟨#[UInt8.ofNat (33 + n % 90)]⟩ : ByteArray) = c at *
              have HW2 : Hid (Jq w ((wr.alloc (Obj.cells #[.int .u8 (33 + (n : Int) % 90)] 5)).alloc (Obj.cells #[.int .i64 (n : Int), .string (val ++ c), .slice none 0 0] tF)) w.heap.size (w.heap.size + 1) mti v' M) := HJ1.out.below (below_two wr _ _)
              have HSZ : Hid (((wr.alloc (Obj.cells #[.int .u8 (33 + (n : Int) % 90)] 5)).alloc (Obj.cells #[.int .i64 (n : Int), .string (val ++ c), .slice none 0 0] tF)).heap.size = wr.heap.size + 2) := by show _ = _; rw [World.size_alloc, World.size_alloc]
              have HGF : Hid (∀ x z1, Jq w x w.heap.size (w.heap.size + 1) mti v' M → x.grownBy z1 v'.ownBlock → z1.cell? ⟨w.heap.size + 1, 1, none⟩ = some v' ∧ z1.frozen? ⟨w.heap.size + 1, 1, none⟩ = false) := fun x z1 hj hg => by
                have := (hj.grown hg).1
                exact ⟨by simp [World.cell?, this], frozen_of_row z1 _ _ _ _ this⟩
              go_wp2_with (at_builtin; refine wpList_append_lies _ rfl _ _ _ rfl w.heap.size tF i0 _ 3 48 Tryz.underlying35 hi hz0 hz1 hz2 rfl (by omega) _ M.length (fc M) rfl HW2.out.row ⟨wr.heap.size + 1, 0, Option.none⟩ 1 1 _ rfl (by rfl) (World.news_of_block (h2_1 wr _ _)) (by simp [Value.oneCell']) (by omega) (by have := HML.out; unfold maxLen; omega) (by have := HML.out; omega) HW2.out.bel.size _ rfl ?_; intro gg cap2 z1 hown hgrow hat hlt1; obtain ⟨m1, m2⟩ := HGF.out _ z1 HW2.out hgrow; have HPU : Hid (Jq w (z1.setCell ⟨w.heap.size + 1, 1, none⟩ (.slice (some ⟨gg, 0, none⟩) (M.length + 1) cap2)) w.heap.size (w.heap.size + 1) mti (.slice (some ⟨gg, 0, none⟩) (M.length + 1) cap2) (M ++ [((n : Int), val ++ c)])) := HW2.out.push (f := ((n : Int), val ++ c)) hgrow hown; clear hown hgrow hat hlt1)
              have := HNN.out
              have := Hn.out
              exact ⟨⟨k + 1, by simp; omega, by omega, ⟨_, by rw [HM.out, ← HVL.out]; exact HPU.out, by rw [HM.out]; intro h; simp at h⟩⟩, by simp only [intOf]; omega⟩
          · have q3 : (N : Int) ≤ (i : Int) := by omega
            clear hi1 hi2 hend hNi
            cases B
            · have HM : Hid (ml raw val (k + 1) = ml raw val k) := by
                show _ = _
                rw [ml, Hn.out, HIA.out]; rfl
              go_wp2_with fail
              have := HNN.out
              have := Hn.out
              exact ⟨⟨k + 1, by simp; omega, by omega, by rw [HM.out]; exact HJ⟩, by simp only [intOf]; omega⟩
            · have HM : Hid (ml raw val (k + 1) = ml raw val k ++ [((n : Int), vl val n)]) := by
                show _ = _
                rw [ml, Hn.out, HIA.out]; rfl
              have n65 : ((n : Int) != 65) = true := by
                have := isIn_ne _ _ HIA.out
                rw [bne_iff_ne]
                intro e
                rw [e] at this
                exact absurd this (by decide)
              obtain ⟨v', hJ, hnil⟩ := HJ.out
              have HNL : Hid (ml raw val k = [] → v' = .slice none 0 0) := hnil
              have hml := ml_len raw val k
              generalize ml raw val k = M at *
              have HML : Hid (M.length ≤ 127) := by have := HK.out; show _ ≤ _; omega
              obtain ⟨k0, k1, k1f⟩ := hJ.cell8
              have HJ1 : Hid (Jq w wr w.heap.size (w.heap.size + 1) mti v' M) := hJ
              clear hJ hnil HJ hml
              obtain ⟨i0, hi, hz0, hz1, hz2⟩ := infoF3
              have cv := conv_one (wr.alloc (Obj.cells #[.int .u8 (33 + (n : Int) % 90)] 5)) wr.heap.size n (h1_0 wr _)
              have HVL : Hid (val ++ (⟨#[UInt8.ofNat (33 + n % 90)]⟩ : ByteArray) = vl val n) := rfl
              have g1 : ¬ 9223372036854775807 < val.size + (⟨#[UInt8.ofNat (33 + n % 90)]⟩ : ByteArray).size := by show ¬ 9223372036854775807 < val.size + 1; omega
              generalize (⟨#[UInt8.ofNat (33 + n % 90)]⟩ : ByteArray) = c at *
              have HW2 : Hid (Jq w ((wr.alloc (Obj.cells #[.int .u8 (33 + (n : Int) % 90)] 5)).alloc (Obj.cells #[.int .i64 (n : Int), .string (val ++ c), .slice none 0 0] tF)) w.heap.size (w.heap.size + 1) mti v' M) := HJ1.out.below (below_two wr _ _)
              have HSZ : Hid (((wr.alloc (Obj.cells #[.int .u8 (33 + (n : Int) % 90)] 5)).alloc (Obj.cells #[.int .i64 (n : Int), .string (val ++ c), .slice none 0 0] tF)).heap.size = wr.heap.size + 2) := by show _ = _; rw [World.size_alloc, World.size_alloc]
              have HGF : Hid (∀ x z1, Jq w x w.heap.size (w.heap.size + 1) mti v' M → x.grownBy z1 v'.ownBlock → z1.cell? ⟨w.heap.size + 1, 1, none⟩ = some v' ∧ z1.frozen? ⟨w.heap.size + 1, 1, none⟩ = false) := fun x z1 hj hg => by
                have := (hj.grown hg).1
                exact ⟨by simp [World.cell?, this], frozen_of_row z1 _ _ _ _ this⟩
              go_wp2_with (at_builtin; refine wpList_append_lies _ rfl _ _ _ rfl w.heap.size tF i0 _ 3 48 Tryz.underlying35 hi hz0 hz1 hz2 rfl (by omega) _ M.length (fc M) rfl HW2.out.row ⟨wr.heap.size + 1, 0, Option.none⟩ 1 1 _ rfl (by rfl) (World.news_of_block (h2_1 wr _ _)) (by simp [Value.oneCell']) (by omega) (by have := HML.out; unfold maxLen; omega) (by have := HML.out; omega) HW2.out.bel.size _ rfl ?_; intro gg cap2 z1 hown hgrow hat hlt1; obtain ⟨m1, m2⟩ := HGF.out _ z1 HW2.out hgrow; have HPU : Hid (Jq w (z1.setCell ⟨w.heap.size + 1, 1, none⟩ (.slice (some ⟨gg, 0, none⟩) (M.length + 1) cap2)) w.heap.size (w.heap.size + 1) mti (.slice (some ⟨gg, 0, none⟩) (M.length + 1) cap2) (M ++ [((n : Int), val ++ c)])) := HW2.out.push (f := ((n : Int), val ++ c)) hgrow hown; clear hown hgrow hat hlt1)
              have := HNN.out
              have := Hn.out
              exact ⟨⟨k + 1, by simp; omega, by omega, ⟨_, by rw [HM.out, ← HVL.out]; exact HPU.out, by rw [HM.out]; intro h; simp at h⟩⟩, by simp only [intOf]; omega⟩
    · obtain rfl : n = 129 := by have := Hn.out; omega
      have hk7 : k = 127 := by have := Hn.out; omega
      subst hk7
      obtain ⟨v', hJ, hnil⟩ := HJ.out
      obtain ⟨o2, c2, hv2, -⟩ := own_form hJ.row
      subst hv2
      obtain ⟨KL, HKL⟩ : ∃ KL, Hid ((ml raw val 127).length = KL) := ⟨_, rfl⟩
      rw [HKL.out] at hJ hnil
      have q0 : ¬ (((129 : Nat) : Int) ≤ 128) := by omega
      obtain ⟨k0, k1, k1f⟩ := hJ.cell8
      have s0 : wr.cell? ⟨w.heap.size, 0, none⟩ = some (.string ⟨#[]⟩) := by have := hJ.c6; simp [World.cell?, this]
      have s1 : wr.cell? ⟨w.heap.size, 1, none⟩ = some (.slice none 0 0) := by have := hJ.c6; simp [World.cell?, this]
      have f0 : wr.frozen? ⟨w.heap.size, 0, none⟩ = false := frozen_of_row wr _ _ _ _ hJ.c6
      have f1 : wr.frozen? ⟨w.heap.size, 1, none⟩ = false := frozen_of_row wr _ _ _ _ hJ.c6
      have HJX : Hid (Jq w wr w.heap.size (w.heap.size + 1) mti (.slice o2 KL c2) (ml raw val 127)) := hJ
      have HNL : Hid (ml raw val 127 = [] → Value.slice o2 KL c2 = .slice none 0 0) := hnil
      clear HJ hk hlt hJ hnil
      go_wp2_with fail
      exact fin_msg rfl _ rfl (Nat.le_refl _) HJX.out.c6 HJX.out.row HNL.out HJX.out.bel
end Go.Proofs.YtmnoplaepjaokaaGreatDoor.Bd
