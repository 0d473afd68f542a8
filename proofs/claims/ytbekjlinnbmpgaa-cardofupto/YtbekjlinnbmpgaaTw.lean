/- Messages: Twin. -/
import Derived.Test.YtbekjlinnbmpgaaNl
namespace Go.Proofs.Ytbekjlinnbmpgaa.Tw
set_option linter.unusedVariables false
set_option linter.unusedSimpArgs false
open Go.RowKit Lib0 Kp Kb Kd Kt Ks Kw Ku Kx Fs Nd Nq Nr Nl
theorem infoF : (Try.prog.info? 32).map (fun i => (i.zero, i.size, i.bytes)) = some (some (.agg #[.int .i64 0, .string ⟨#[]⟩, .slice none 0 0]), 3, 48) := by kernel_rfl
set_option maxRecDepth 100000 in
set_option maxHeartbeats 1600000 in
theorem twin_any (mti : ByteArray) (ts : List Tr) (v : Value) (w : World) (hz : Lien w v ts) :
    Calls Try.prog 8 #[.agg #[.string mti, v]] w fun e w' => ∃ (g : Nat) (C : Array Value) (f : Nat → Int × ByteArray × Value), e = .returned (.agg #[.string mti, .slice (some ⟨g, 0, none⟩) ts.length (ts.length + 5)]) ∧ w.heap.size ≤ g ∧ w'.heap[g]? = some (.cells C 32) ∧ RowIs C (ts.length + 5) f ∧ Filled w' (g + 1) ts (ts.length + 5) f ∧ Below w.heap.size w w' := by
  obtain ⟨i0, hi, hz0, hz1, hz2⟩ := info_parts infoF
  have IH : Hid (∀ (kids : List Tr) (v : Value) (w : World), Lien w v kids → Calls Try.prog 20 #[v] w (LentP w kids)) := (fun kids v w h => lent_any _ kids (Nat.le_refl _) v w h : ∀ (kids : List Tr) (v : Value) (w : World), Lien w v kids → Calls Try.prog 20 #[v] w (LentP w kids))
  obtain ⟨o, cap, rfl, hl, hc⟩ := hz
  obtain ⟨N, HN, hN⟩ : ∃ N : Nat, Hid (ts.length = N) ∧ N ≤ 1048576 := ⟨_, rfl, hl⟩
  obtain ⟨M, HM5⟩ : ∃ M : Nat, Hid (N + 5 = M) := ⟨_, rfl⟩
  have eM := HM5.out
  have HC : Hid (ts ≠ [] → ∃ a, o = some a ∧ laid w a 0 ts) := hc
  have y1 : IntKind.i64.wrap ((N : Int) + 5) = (M : Int) := by rw [IntKind.wrap_i64]; omega
  have y2 : (N : Int) + 5 = (M : Int) := by omega
  have y3 : IntKind.i64.wrap (M : Int) = (M : Int) := by rw [IntKind.wrap_i64]; omega
  clear hc hl
  rw [HN.out]
  go_enter Try.func8, Try.ntmps8
  go_wp2_with (at_make; refine wpList_make_three _ rfl _ _ 22 rfl 32 i0 _ #[.int .i64 0, .string ⟨#[]⟩, .slice none 0 0] Try.underlying22 hi hz0 hz1 rfl _ _ M rfl rfl (by rw [hz2]; omega) (by omega) ?_)
  have R0 := made_row 0 ⟨#[]⟩ (.slice none 0 0) M
  have Mb0 := h2_0 w (.cells #[.string mti, .slice o N cap] 24) (.cells #[.string ⟨#[]⟩, .slice none 0 0] 24)
  have Mr0 := h2_1 w (.cells #[.string mti, .slice o N cap] 24) (.cells #[.string ⟨#[]⟩, .slice none 0 0] 24)
  have Bw := below_two w (.cells #[.string mti, .slice o N cap] 24) (.cells #[.string ⟨#[]⟩, .slice none 0 0] 24)
  have sG : ((w.alloc (.cells #[.string mti, .slice o N cap] 24)).alloc (.cells #[.string ⟨#[]⟩, .slice none 0 0] 24)).heap.size = w.heap.size + 1 + 1 := by simp
  have HC2 : Hid (ts ≠ [] → ∃ a, o = some a ∧ laid ((w.alloc (.cells #[.string mti, .slice o N cap] 24)).alloc (.cells #[.string ⟨#[]⟩, .slice none 0 0] 24)) a 0 ts) := (fun h => by
    obtain ⟨a, e, hl⟩ := HC.out h
    exact ⟨a, e, laid_below Bw a 0 ts hl⟩ : ts ≠ [] → ∃ a, o = some a ∧ laid ((w.alloc (.cells #[.string mti, .slice o N cap] 24)).alloc (.cells #[.string ⟨#[]⟩, .slice none 0 0] 24)) a 0 ts)
  clear HC
  generalize (w.alloc (.cells #[.string mti, .slice o N cap] 24)).alloc (.cells #[.string ⟨#[]⟩, .slice none 0 0] 24) = v2 at *
  have M0 := h1_0 v2 (.cells (madeCells #[.int .i64 0, .string ⟨#[]⟩, .slice none 0 0] (M * 3)) 32)
  have B0 := below_one v2 (.cells (madeCells #[.int .i64 0, .string ⟨#[]⟩, .slice none 0 0] (M * 3)) 32)
  generalize madeCells #[.int .i64 0, .string ⟨#[]⟩, .slice none 0 0] (M * 3) = C0 at *
  generalize v2.alloc (.cells C0 32) = w0 at *
  rw [sG] at M0 B0
  obtain ⟨G, HG⟩ : ∃ G, Hid (w.heap.size + 1 + 1 = G) := ⟨_, rfl⟩
  obtain ⟨rs, Hrs⟩ : ∃ rs, Hid (w.heap.size + 1 = rs) := ⟨_, rfl⟩
  obtain ⟨bx, Hbx⟩ : ∃ bx, Hid (w.heap.size = bx) := ⟨_, rfl⟩
  rw [HG.out] at B0 M0 sG
  have eG : v2.heap.size = G := sG
  have Wd : Hid (w.heap.size + 1 + 1 = G ∧ w.heap.size + 1 = rs ∧ w.heap.size = bx) := ⟨HG.out, Hrs.out, Hbx.out⟩
  rw [Hrs.out] at Mr0
  rw [Hbx.out] at Mb0
  rw [show w.heap.size + 1 + 1 = G from HG.out, show w.heap.size + 1 = rs from Hrs.out, show w.heap.size = bx from Hbx.out]
  clear Hbx Hrs HG sG
  go_loopw [4] (fun i wr => ∃ (k : Nat) (C : Array Value) (f : Nat → Int × ByteArray × Value), k ≤ M ∧ i = .int .i64 (k : Int) ∧ wr.heap[G]? = some (.cells C 32) ∧ RowIs C M f ∧ Filled wr (G + 1) ts k f ∧ Below G v2 wr) (fun i _ => M + 1 - (intOf i).toNat)
  case atStart => exact ⟨0, C0, _, Nat.zero_le _, rfl, M0, R0, fun i h => by omega, B0⟩
  case round =>
    obtain ⟨k, C, f, hk, rfl, hb, hr, hf, bw⟩ := hrel
    by_cases hlt : k < M
    · have q0 : (0 : Int) ≤ (k : Int) := by omega
      have q1 : (k : Int) < (M : Int) := by omega
      have bwV : Below v2.heap.size v2 wr := by rw [eG]; exact bw
      obtain ⟨b0, b1, _, _⟩ := held2 bwV Mb0
      have hGb : G ≠ bx := by have := (Array.getElem?_eq_some_iff.1 Mb0).1; omega
      obtain ⟨⟨c0, c1, c2⟩, ⟨f0, f1, f2⟩⟩ := row_all hb hr k hlt
      have hb1 := setCells_heap [.int .i64 (-77), .string mk4, .slice none 0 0] (3 * k) hb
      have hr1 := row_put hr hlt mN
      rw [Nat.mul_comm 3 k] at hb1
      have hr1' : RowIs (putL C (k * 3) [.int .i64 (-77), .string mk4, .slice none 0 0]) M (updF f k mN) := by rw [Nat.mul_comm]; exact hr1
      have bw1 := below_setCells (Nat.le_refl G) [.int .i64 (-77), .string mk4, .slice none 0 0] (k * 3) bw
      have kp1 : ∀ b, G + 1 ≤ b → b < wr.heap.size → (wr.setCells G (k * 3) [.int .i64 (-77), .string mk4, .slice none 0 0]).heap[b]? = wr.heap[b]? := fun b h1 _ => setCells_ne (by omega) _ _ _
      have hf1 := filled_keep kp1 (by rw [setCells_size]; exact Nat.le_refl _) hf
      have b1s : (((wr.setCell ⟨G, k * 3, none⟩ (.int .i64 (-77))).setCell ⟨G, k * 3 + 1, none⟩ (.string ⟨#[109, 97, 114, 107]⟩)).setCell ⟨G, k * 3 + 2, none⟩ (.slice none 0 0)).cell? ⟨bx, 1, none⟩ = some (.slice o N cap) :=
        (cell_set_ne (by exact hGb)).trans ((cell_set_ne (by exact hGb)).trans ((cell_set_ne (by exact hGb)).trans b1))
      by_cases hkN : k < N
      · have q2 : (k : Int) < (N : Int) := by omega
        have hkt : k < ts.length := by rw [HN.out]; exact hkN
        obtain ⟨a, rfl, hla⟩ := HC2.out (by intro hh; rw [hh] at hkt; simp at hkt)
        have bwW : Below v2.heap.size v2 (wr.setCells G (k * 3) [.int .i64 (-77), .string mk4, .slice none 0 0]) := by rw [eG]; exact bw1
        obtain ⟨tag, val, kids, ko, kc, et, d0, d1, d2, hv, hkd⟩ := laid_at ts 0 k hkt (laid_below bwW a 0 ts hla)
        obtain ⟨B0', B1', _, _⟩ := held2 bwW Mb0
        clear bwW
        rw [Nat.zero_add] at d0 d1 d2
        have hG : G ≠ (a.add (k * 3)).block := by
          obtain ⟨_, _, _, _, _, _, x0, _⟩ := laid_at ts 0 k hkt hla
          rw [Nat.zero_add] at x0
          have := World.block_lt_of_cell? v2 _ x0
          omega
        have hmem : Tr.mk tag val kids ∈ ts := by rw [← et]; exact List.getElem_mem hkt
        go_wp2_with fail
        refine (?_ : Code.wp Try.prog _ _ _ (wr.setCells G (k * 3) [.int .i64 (-77), .string mk4, .slice none 0 0]))
        generalize wr.setCells G (k * 3) [.int .i64 (-77), .string mk4, .slice none 0 0] = W1 at *
        generalize putL C (k * 3) [.int .i64 (-77), .string mk4, .slice none 0 0] = C1 at *
        have pk := IH.out kids (.slice ko kids.length kc) W1.drew (lien_below hkd ((Below.refl _ _).drew))
        have PK : Hid (Calls Try.prog 20 #[.slice ko kids.length kc] W1.drew (LentP W1.drew kids)) := pk
        clear pk hla hkd hmem c0 c1 c2 f0 f1 f2 hb hr hr1 hf bw kp1
        have hE : (a.add (k * 3)).block < W1.heap.size := World.block_lt_of_cell? W1 _ d0
        have hE2 : bx < W1.heap.size := World.block_lt_of_cell? W1 _ B1'
        have hG2 : G ≠ bx := by have := (Array.getElem?_eq_some_iff.1 Mb0).1; omega
        have KD : Hid (∀ y, Below W1.heap.size W1 y → y.cell? ⟨bx, 1, none⟩ = some (.slice (some a) N cap) ∧ y.cell? (a.add (k * 3)) = some (.int .i64 tag) ∧ y.cell? ⟨(a.add (k * 3)).block, (a.add (k * 3)).off + 1, none⟩ = some (.string val) ∧ y.cell? ⟨(a.add (k * 3)).block, (a.add (k * 3)).off + 2, none⟩ = some (.slice ko kids.length kc)) :=
          (fun y hy => ⟨(hy.cell (p := ⟨bx, 1, none⟩) hE2).trans B1', (hy.cell hE).trans d0, (hy.cell (p := ⟨(a.add (k * 3)).block, (a.add (k * 3)).off + 1, none⟩) hE).trans d1, (hy.cell (p := ⟨(a.add (k * 3)).block, (a.add (k * 3)).off + 2, none⟩) hE).trans d2⟩ : ∀ y, Below W1.heap.size W1 y → y.cell? ⟨bx, 1, none⟩ = some (.slice (some a) N cap) ∧ y.cell? (a.add (k * 3)) = some (.int .i64 tag) ∧ y.cell? ⟨(a.add (k * 3)).block, (a.add (k * 3)).off + 1, none⟩ = some (.string val) ∧ y.cell? ⟨(a.add (k * 3)).block, (a.add (k * 3)).off + 2, none⟩ = some (.slice ko kids.length kc))
        generalize hkl : kids.length = kl at *
        go_region_held3 (fun w' => w'.cell? ⟨bx, 1, none⟩ = some (.slice (some a) N cap) ∧ w'.cell? (a.add (k * 3)) = some (.int .i64 tag) ∧ w'.cell? ⟨(a.add (k * 3)).block, (a.add (k * 3)).off + 1, none⟩ = some (.string val) ∧ w'.cell? ⟨(a.add (k * 3)).block, (a.add (k * 3)).off + 2, none⟩ = some (.slice ko kl kc)) (first | (refine ⟨?_, ?_, ?_, ?_⟩ <;> assumption) | go_keep | (refine ⟨?_, ?_, ?_, ?_⟩ <;> (refine (cell_set_ne (by first | exact hG2 | exact hG)).trans ((cell_set_ne (by first | exact hG2 | exact hG)).trans ((cell_set_ne (by first | exact hG2 | exact hG)).trans ?_)); assumption)))
          ((go_at_call 20; refine PK.out.mono ?_; rintro e y ⟨g2, rfl, L2, hy⟩; have BY : Below W1.heap.size W1 y := ((Below.refl _ W1).drew).trans hy; obtain ⟨jb, j0, j1, j2⟩ := KD.out y BY; obtain ⟨⟨e0, e1, e2⟩, ⟨h0, h1, h2⟩⟩ := row_all (kept BY hb1) hr1' k hlt))
        all_goals
          obtain ⟨C2, F2, s1, s2, s3, s4⟩ := store_next (N := N) hlt hkt et hkl hb1 hr1' hf1 BY L2 bw1 (Nat.le_of_lt (Array.getElem?_eq_some_iff.1 hb1).1)
          go_wp2
          go_roundw
          case rel => exact ⟨k + 1, C2, F2, by omega, by go_num, s1, s2, s3, s4⟩
          case measure => simp [intOf]; omega
      · have q2 : ¬ (k : Int) < (N : Int) := by omega
        go_wp2_with fail
        go_roundw
        case rel => exact ⟨k + 1, _, _, by omega, by go_num, hb1, hr1', filled_upd hf1 (fun h => by rw [HN.out] at h; omega) (fun _ => rfl), bw1⟩
        case measure => simp [intOf]; omega
    · obtain rfl : k = M := by omega
      have q2 : (N : Int) ≤ (k : Int) := by omega
      have q3 : (0 : Int) ≤ (N : Int) := by omega
      have bwV : Below v2.heap.size v2 wr := by rw [eG]; exact bw
      obtain ⟨b0, b1, _, _⟩ := held2 bwV Mb0
      obtain ⟨r0, r1, rf0, rf1⟩ := held2 bwV Mr0
      have Mr := kept bwV Mr0
      have wd := Wd.out
      have hrb : rs ≠ bx := by omega
      have hrG : rs ≠ G := by omega
      have eM' := eM
      go_wp2_with fail
      go_region_held3 (fun w' => w'.cell? ⟨bx, 0, none⟩ = some (.string mti) ∧ w'.cell? ⟨bx, 1, none⟩ = some (.slice o N cap)) (first | (refine ⟨?_, ?_⟩ <;> assumption) | go_keep | (refine ⟨?_, ?_⟩ <;> (refine (cell_drew _ _).trans ((cell_set_ne (by exact hrb)).trans ((cell_set_ne (by exact hrb)).trans ?_)); assumption))) (fail)
      all_goals
        have k1 : ((wr.setCell ⟨rs, 0, none⟩ (.string mti)).setCell ⟨rs, 1, none⟩ (.slice (some ⟨G, 0, none⟩) N k)).drew.heap[rs]? = some (.cells #[.string mti, .slice (some ⟨G, 0, none⟩) N k] 24) := by
          have := Nr.setCell_heap (Nr.setCell_heap Mr 0 (.string mti)) 1 (.slice (some ⟨G, 0, none⟩) N k)
          exact this
        have k2 : ((wr.setCell ⟨rs, 0, none⟩ (.string mti)).setCell ⟨rs, 1, none⟩ (.slice (some ⟨G, 0, none⟩) N k)).drew.heap[G]? = some (.cells C 32) := by
          have := (Nr.setCell_ne (w := wr.setCell ⟨rs, 0, none⟩ (.string mti)) hrG 1 (.slice (some ⟨G, 0, none⟩) N k)).trans ((Nr.setCell_ne (w := wr) hrG 0 (.string mti)).trans hb)
          exact this
        have k3 : Filled ((wr.setCell ⟨rs, 0, none⟩ (.string mti)).setCell ⟨rs, 1, none⟩ (.slice (some ⟨G, 0, none⟩) N k)).drew (G + 1) ts k f := by
          refine filled_keep (fun b h1 _ => ?_) ?_ hf
          · have := (Nr.setCell_ne (w := wr.setCell ⟨rs, 0, none⟩ (.string mti)) (show rs ≠ b by omega) 1 (.slice (some ⟨G, 0, none⟩) N k)).trans (Nr.setCell_ne (w := wr) (show rs ≠ b by omega) 0 (.string mti))
            exact this
          · show wr.heap.size ≤ (World.setCell _ _ _).heap.size
            simp [World.setCell]
        have k4 : Below w.heap.size w ((wr.setCell ⟨rs, 0, none⟩ (.string mti)).setCell ⟨rs, 1, none⟩ (.slice (some ⟨G, 0, none⟩) N k)).drew := (Nr.below_setCell (Nr.below_setCell (Bw.trans (bwV.mono Bw.size)) (by omega) 0 _) (by omega) 1 _).drew
        generalize ((wr.setCell ⟨rs, 0, none⟩ (.string mti)).setCell ⟨rs, 1, none⟩ (.slice (some ⟨G, 0, none⟩) N k)).drew = Z at *
        obtain ⟨z0, z1, _, _⟩ := held2 (Below.refl _ Z) k1
        go_wp2
        refine bodyPost_ret (v := .agg #[.string mti, .slice (some ⟨G, 0, none⟩) N k]) (by simp [results, Try.results8, go_sem, z0, z1]) rfl ⟨G, C, f, ?_, ?_, k2, ?_, ?_, k4⟩
        · rw [eM]
        · have := Wd.out; omega
        · rw [eM]; exact hr
        · rw [eM]; exact k3
end Go.Proofs.Ytbekjlinnbmpgaa.Tw
