/- SealChanges: the law out of the contracts; the frame of the row. -/
import Derived.Test.YtpifebapodfeaabRows
import Derived.WalkKit
import Derived.ProofKit
import Derived.OpenShut
import Derived.ShutString
import Derived.ChangeOld
import Derived.Below
import Derived.JoinedCond
import Derived.Carry
import Derived.SizedLaws
import Derived.Test.YtpifebapodfeaabCg
import Derived.Test.YtpifebapodfeaabSg
namespace Go.Proofs.Ytpifebapodfeaab.sealChanges
open Go.ChangeShapes Go.WideShapes Go.ChangeAt Go.RowKit
open Go.ChangeMaps (open_string shut_string)
set_option linter.unusedVariables false

theorem own : ownKnob Try.prog.godebug = none := by kernel_rfl

set_option maxRecDepth 100000 in
set_option maxHeartbeats 6400000 in
theorem walk (a0 : Int) (a1 : ByteArray) (a2 : ByteArray) (v3 : Value) (z3 : List ByteArray) (v4 : Value) (z4 : List Int) (a5 : ByteArray) (w : World) (w0 : (Lit.int .i64 a0).wf = true) (w1 : a1.size ≤ maxLen) (w2 : a2.size ≤ maxLen) (w3 : Sg.Lies w v3 z3) (w4 : Sg.LiesI w v4 z4) (w5 : a5.size ≤ maxLen) (k1 : a1.size ≤ 1048576) (k2 : a2.size ≤ 1048576) (k5 : a5.size ≤ 1048576) (k3 : z3.length ≤ 1048576) (k4 : z4.length ≤ 1048576) :
    Calls Try.prog 4 #[.int .i64 a0, .string a1, .string a2, v3, v4, .string a5] w fun e w' => e = .returned (.bool true) ∧ Below w.heap.size w w' := by
  obtain ⟨p0, alg, l0, l1, hal, hA, PK⟩ := Ft.pick_alg a0 w0
  obtain ⟨o3, cp3, rfl, m3, c3⟩ := w3
  obtain ⟨o4, cp4, rfl, m4, c4⟩ := w4
  have FX := fun y => Ft.fitted_any a1 16 (by decide) (by omega) y
  have F1 := fun y => Ft.fitted_any a2 (4 + 4 * alg) (by omega) (by omega) y
  have FK := fun (s : ByteArray) (hs : s.size ≤ maxLen) y => Ft.fitted_any s (4 + 4 * alg) (by omega) hs y
  have NS := fun y => Sr.new_good 2 (by decide) (by decide) y
  have NB := fun (x : ByteArray) (hx : x.size = 16) y => Nw.new_good x 2 (by show Wd.kindN x.size = 2; rw [hx]; rfl) (by decide) (by decide) y
  have P0 := fun (k x : ByteArray) (hk : k.size = 4 + 4 * alg) (hx : x.size = 16) b d y hS => Sr.Put_good b d 2 0 Sr.emp (by decide) alg 1 hal (.inl rfl) k x hk (.inr hx) y hS
  have P1 := fun (k x : ByteArray) (hk : k.size = 4 + 4 * alg) (hx : x.size = 16) b d y hS => Sr.Put_good b d 2 1 (Sr.upd Sr.emp 0 (Option.some ⟨alg, 1, k, x, 0⟩)) (by decide) alg 1 hal (.inl rfl) k x hk (.inr hx) y hS
  have T0 := fun (fst x now : ByteArray) rd b d y hS => Sd.Tag_in b d 2 0 (Cg.FF alg fst x now rd) ⟨alg, 1, now, x, rd⟩ (by decide) (Cg.FF_0 _ _ _ _ _) a5 (by omega) y hS
  have T1 := fun (fst x now : ByteArray) rd b d y hS => Sd.Tag_in b d 2 1 (Cg.FF alg fst x now rd) ⟨alg, 1, fst, x, 0⟩ (by decide) (Cg.FF_1 _ _ _ _ _) a5 (by omega) y hS
  have R0 := fun (fst x now : ByteArray) rd b d y hS => Sq.Round_in b d 2 0 (Cg.FF alg fst x now rd) (by decide) y hS
  have R1 := fun (fst x now : ByteArray) rd b d y hS => Sq.Round_in b d 2 1 (Cg.FF alg fst x now rd) (by decide) y hS
  simp only [Cg.FF_0, Sq.roundOf] at R0
  simp only [Cg.FF_1, Sq.roundOf] at R1
  have TG := fun (now : ByteArray) (hr : now.size = 4 + 4 * alg) y => Tg.Tag_good alg 1 hal (.inl rfl) now hr a5 (by omega) y
  have PE := fun (fst x now : ByteArray) rd (hk : now.size = 4 + 4 * alg) b d y hS => Sr.Put_good b d 2 0 (Cg.FF alg fst x now rd) (by decide) alg 1 hal (.inl rfl) now ⟨#[]⟩ hk (.inl rfl) y hS
  have CX := fun (f : Nat → Option Sd.Held) (now u v : ByteArray) b d y hS => Sy.Change_nox b d 2 0 (Sr.upd f 0 (Option.some ⟨alg, 1, now, ⟨#[]⟩, 0⟩)) (by decide) (by intro h e; simp [Sr.upd] at e; subst e; rfl) u v y hS
  have RX := fun (f : Nat → Option Sd.Held) (now : ByteArray) b d y hS => Sq.Round_in b d 2 0 (Sr.upd f 0 (Option.some ⟨alg, 1, now, ⟨#[]⟩, 0⟩)) (by decide) y hS
  have rx : ∀ (f : Nat → Option Sd.Held) (now : ByteArray), Sq.roundOf (Sr.upd f 0 (Option.some ⟨alg, 1, now, ⟨#[]⟩, 0⟩) 0) = 0 := fun f now => by simp [Sr.upd, Sq.roundOf]
  simp only [rx] at RX
  clear rx
  obtain ⟨N, hN⟩ : ∃ N, 4 + 4 * alg = 8 * N ∧ 1 ≤ N ∧ N ≤ 2 := by rcases hal with rfl | rfl; exact ⟨1, rfl, by decide, by decide⟩; exact ⟨2, rfl, by decide, by decide⟩
  have hZ : 4 + 4 * (alg : Int) = ((4 + 4 * alg : Nat) : Int) := by omega
  have z16 : (4 + 4 * alg : Nat) ≤ 16 := by omega
  obtain ⟨hN1, hN2, hN3⟩ := hN
  have g1 : (1 : Int) ≤ (alg : Int) := by omega
  have g2 : (alg : Int) ≤ 3 := by omega
  generalize (4 + 4 * alg) = Z at *
  obtain ⟨Al, hAl⟩ : ∃ Al : Int, Al = (alg : Int) := ⟨_, rfl⟩
  rw [← hAl] at hA hZ g1 g2 TG P0 P1 PE
  have zz1 : (8 : Int) ≤ (Z : Int) := by omega
  have zz2 : (Z : Int) ≤ 16 := by omega
  have HN : Hid (Z = 8 * N ∧ 1 ≤ N ∧ N ≤ 2) := ⟨hN1, hN2, hN3⟩
  have HL3 : Hid (z3.length ≤ 1048576) := k3
  have Hc3 : Hid (∀ i (h : i < z3.length), ∃ a : Addr, o3 = some a ∧ w.cell? (a.add i) = some (.string z3[i]) ∧ z3[i].size ≤ maxLen) := c3
  have Hc4 : Hid (∀ i (h : i < z4.length), ∃ a : Addr, o4 = some a ∧ w.cell? (a.add i) = some (.int .i64 z4[i]) ∧ (Lit.int .i64 z4[i]).wf = true) := c4
  have HFST0 : True := trivial
  clear hal hAl hN1 hN2 hN3 c3 c4 k1 k2 k3 k4 k5 w0 w1 w2 w5
  go_enter Try.func4, Try.ntmps4
  go_wp2_with (first
    | (go_at_call 5; refine (PK _).mono ?_; rintro e x1 ⟨rfl, h1⟩; rw [h1])
    | (go_at_call_of 6 (Value.string a1); refine (FX _).mono ?_; rintro e x2 ⟨x, rfl, hx, h2⟩)
    | (go_at_call_of 6 (Value.string a2); refine (F1 _).mono ?_; rintro e x3 ⟨fst, rfl, hfst, h3⟩)
    | (go_at_call 7; refine (NS _).mono ?_; rintro e x4 ⟨b, d, rfl, lb, ld, hS4, h4⟩)
    | (go_at_call 12; refine (NB x hx _).mono ?_; rintro e x5 ⟨gb, rfl, hgb, kb, h5⟩; have hS5 := Ow.slots_below h5 hS4)
    | (go_at_call_of 8 (Value.int .i64 0); refine (P0 fst x hfst hx b d _ hS5).mono ?_; rintro e x6 ⟨rfl, hS6, f6⟩; have kb6 := Cg.key_fr f6 hS5 kb)
    | (go_at_call 8; refine (P1 fst x hfst hx b d _ hS6).mono ?_; rintro e x7 ⟨rfl, hS7, f7⟩; have kb7 := Cg.key_fr f7 hS6 kb6; have hS7 : Sd.Slots x7 b d 2 (Cg.FF alg fst x fst 0) := hS7)
    | (go_at_call 9; refine (T1 fst x fst 0 b d _ hS7).mono ?_; rintro e x8 ⟨rfl, hS8, f8⟩; have kb8 := Cg.key_fr f8 hS7 kb7))
  have hw2 := h2.size
  have hw3 := h3.size
  have lwb : w.heap.size ≤ b := by omega
  have lwd : w.heap.size ≤ d := by omega
  have B5 : Below w.heap.size w x5 := Cb.keepB (Cb.keepB (Cb.keepB h2 h3) h4) h5
  have B8 : Below w.heap.size w x8 := Cg.fb B5 lwb lwd ((f6.trans f7).trans f8)
  have T0 := fun now rd y hS => T0 fst x now rd b d y hS
  have T1 := fun now rd y hS => T1 fst x now rd b d y hS
  have R0 := fun now rd y hS => R0 fst x now rd b d y hS
  have R1 := fun now rd y hS => R1 fst x now rd b d y hS
  have PE := fun now rd hk y hS => PE fst x now rd hk b d y hS
  have HP := fun (now k : ByteArray) rd hk hN hn hrd => Cg.paths alg fst x now k rd N hk hN hn hx hrd
  have s8 := Sp.tagB_size alg 1 fst a5
  generalize Sp.tagB alg 1 fst a5 = WAS at *
  have HX : Hid (x.size = 16) := hx
  have x16 : (16 : Int) ≤ (x.size : Int) := by omega
  have HFST : Hid (fst.size = Z) := hfst
  clear h2 h3 h4 h5 f6 f7 f8 hS4 hS5 hS6 hS7 kb kb6 kb7 P0 P1 NS NB FX F1 PK hfst hx hw2 hw3 B5 lb ld hgb
  go_loopw [16, 25, 26] (fun vn vr vi wr => ∃ (j rd : Nat) (now : ByteArray), j ≤ z3.length ∧ rd ≤ j ∧ vn = .string now ∧ vr = .int .i64 (rd : Int) ∧ vi = .int .i64 (j : Int) ∧ now.size = Z ∧ Sd.Slots wr b d 2 (Cg.FF alg fst x now rd) ∧ Bk.Key wr gb 2 x.data.toList ∧ Below w.heap.size w wr) (fun _ _ vi _ => z3.length + 1 - (intOf vi).toNat)
  case atStart => exact ⟨0, 0, fst, Nat.zero_le _, Nat.le_refl _, rfl, rfl, rfl, HFST.out, hS8, kb8, B8⟩
  case round =>
    obtain ⟨j, rd, now, hj, hrd, rfl, rfl, rfl, hnow, hS, hkb, hb⟩ := hrel
    have HL := HL3.out
    by_cases hlt : j < z3.length
    · obtain ⟨a, rfl, hca, hcs⟩ := Hc3.out j hlt
      have hcell : wr.cell? (a.add j) = some (.string z3[j]) := (hb.cell (World.block_lt_of_cell? w _ hca)).trans hca
      have q0 : (0 : Int) ≤ (j : Int) := by omega
      have q1 : (j : Int) < (z3.length : Int) := by omega
      have q2 : (z3.length : Int) ≤ 1048576 := by omega
      have q3 : (rd : Int) ≤ 1048576 := by omega
      generalize z3[j] = sj at *
      have FKj := fun y => FK sj hcs y
      clear FK T1 R1 PE CX RX hS8 kb8 B8
      go_wp2_with (go_at_call 6; refine (FKj _).mono ?_; rintro e y0 ⟨k, rfl, hk, d0⟩)
      obtain ⟨hz, hn1, hn2⟩ := HN.out
      obtain ⟨W, V, B, sW, sV, EN, CK, WK, COK, CWK, CCH, CLN⟩ := HP now k rd (by omega) (by omega) (by omega) (by omega)
      have hS9 := Ow.slots_below d0 hS
      have kb9 := Bk.key_kept d0 hkb
      have hb9 := Cb.keepB hb d0
      have sWZ : W.size = Z := by omega
      have hH : Hid (j < z3.length ∧ rd ≤ j) := ⟨hlt, hrd⟩
      have TGk := TG k hk
      have TGn := TG now hnow
      have T0k := fun y hS => T0 k (rd + 1) y hS
      have T0n := fun y hS => T0 now rd y hS
      have R0k := fun y hS => R0 k (rd + 1) y hS
      have R0n := fun y hS => R0 now rd y hS
      rw [show ((rd + 1 : Nat) : Int) = (rd : Int) + 1 by omega] at R0k
      have s8k := Sp.tagB_size alg 1 k a5
      have s8n := Sp.tagB_size alg 1 now a5
      generalize hTK : Sp.tagB alg 1 k a5 = TK at *
      generalize hTN : Sp.tagB alg 1 now a5 = TN at *
      have Hk : Hid (k.size = Z) := hk
      have Hnow : Hid (now.size = Z) := hnow
      clear HP hS hkb hb d0 TG T0 R0 FKj hcs hca hTK hTN hz hn1 hn2 hj sW hlt hrd hk hnow hcell
      by_cases hj4 : j < z4.length
      · obtain ⟨a', rfl, hca', hw'⟩ := Hc4.out j hj4
        have hcl : ∀ yy : World, Below w.heap.size w yy → yy.cell? (a'.add j) = some (.int .i64 z4[j]) := fun yy hyy => (hyy.cell (World.block_lt_of_cell? w _ hca')).trans hca'
        have q4 : (j : Int) < (z4.length : Int) := by omega
        obtain ⟨p, hp, PC⟩ := Ft.pick_nat z4[j] hw' 5 (by decide) (by decide)
        rw [show ((5 : Nat) : Int) = 5 from rfl] at PC
        generalize z4[j] = sp at *
        clear hca' hw' hj4
        have hpc : p = 1 ∨ p = 2 ∨ p = 3 ∨ (p ≠ 1 ∧ p ≠ 2 ∧ p ≠ 3) := by omega
        rcases hpc with rfl | rfl | rfl | hpo
        · clear hp
          have cc : ¬ 9223372036854775807 < V.size + 1 := by omega
          cases B with
          | true =>
            have CH := CWK rfl (V ++ ⟨#[120]⟩) (.inl (by rw [ByteArray.size_append, sV]; decide))
            clear COK CWK CCH CLN
            go_wp2_with (first
              | (go_at_call 13; refine (EN gb _ kb9).mono ?_; rintro e y1 ⟨rfl, d1⟩; have hSa := Ow.slots_below d1 hS9; have kba := Bk.key_kept d1 kb9; have hba := Cb.keepB hb9 d1)
              | (go_at_call 14; refine (CK _).mono ?_; rintro e y2 ⟨rfl, d2⟩; have hSb := Ow.slots_below d2 hSa; have kbb := Bk.key_kept d2 kba; have hbb := Cb.keepB hba d2; have hc4 := hcl _ hbb)
              | (go_at_call 5; refine (PC _).mono ?_; rintro e y3 ⟨rfl, h3⟩; rw [h3])
              | (go_at_call 15; refine (WK _).mono ?_; rintro e y4 ⟨rfl, d4⟩; have hSc := Ow.slots_below d4 hSb; have kbc := Bk.key_kept d4 kbb; have hbc := Cb.keepB hbb d4)
              | (go_at_call 16; refine (CH b d _ hSc).mono ?_; rintro e y5 ⟨rfl, hSd, fd⟩; have kbd := Cg.key_fr fd hSc kbc; have hbd := Cg.fb hbc lwb lwd fd)
              | (go_at_call 9; refine (T0n _ hSd).mono ?_; rintro e y6 ⟨rfl, hSe, fe⟩; have kbe := Cg.key_fr fe hSd kbd; have hbe := Cg.fb hbd lwb lwd fe)
              | (go_at_call 10; refine (TGn _).mono ?_; rintro e y7 ⟨rfl, d7⟩; have hSf := Ow.slots_below d7 hSe; have kbf := Bk.key_kept d7 kbe; have hbf := Cb.keepB hbe d7)
              | (go_at_call 17; refine (R0n _ hSf).mono ?_; rintro e y8 ⟨rfl, hSg, fg⟩; have kbg := Cg.key_fr fg hSf kbf; have hbg := Cg.fb hbf lwb lwd fg))
            obtain ⟨hlt, hrd⟩ := hH.out
            exact ⟨⟨j + 1, rd, now, by omega, by omega, rfl, rfl, by simp, Hnow.out, hSg, kbg, hbg⟩, by simp only [intOf]; omega⟩
          | false =>
            have CH := CCH rfl (V ++ ⟨#[120]⟩) (by rw [ByteArray.size_append, sV]; decide)
            clear COK CWK CCH CLN
            go_wp2_with (first
              | (go_at_call 13; refine (EN gb _ kb9).mono ?_; rintro e y1 ⟨rfl, d1⟩; have hSa := Ow.slots_below d1 hS9; have kba := Bk.key_kept d1 kb9; have hba := Cb.keepB hb9 d1)
              | (go_at_call 14; refine (CK _).mono ?_; rintro e y2 ⟨rfl, d2⟩; have hSb := Ow.slots_below d2 hSa; have kbb := Bk.key_kept d2 kba; have hbb := Cb.keepB hba d2; have hc4 := hcl _ hbb)
              | (go_at_call 5; refine (PC _).mono ?_; rintro e y3 ⟨rfl, h3⟩; rw [h3])
              | (go_at_call 15; refine (WK _).mono ?_; rintro e y4 ⟨rfl, d4⟩; have hSc := Ow.slots_below d4 hSb; have kbc := Bk.key_kept d4 kbb; have hbc := Cb.keepB hbb d4)
              | (go_at_call 16; refine (CH b d _ hSc).mono ?_; rintro e y5 ⟨rfl, hSd, fd⟩; have kbd := Cg.key_fr fd hSc kbc; have hbd := Cg.fb hbc lwb lwd fd)
              | (go_at_call 9; refine (T0n _ hSd).mono ?_; rintro e y6 ⟨rfl, hSe, fe⟩; have kbe := Cg.key_fr fe hSd kbd; have hbe := Cg.fb hbd lwb lwd fe)
              | (go_at_call 10; refine (TGn _).mono ?_; rintro e y7 ⟨rfl, d7⟩; have hSf := Ow.slots_below d7 hSe; have kbf := Bk.key_kept d7 kbe; have hbf := Cb.keepB hbe d7)
              | (go_at_call 17; refine (R0n _ hSf).mono ?_; rintro e y8 ⟨rfl, hSg, fg⟩; have kbg := Cg.key_fr fg hSf kbf; have hbg := Cg.fb hbf lwb lwd fg))
            obtain ⟨hlt, hrd⟩ := hH.out
            exact ⟨⟨j + 1, rd, now, by omega, by omega, rfl, rfl, by simp, Hnow.out, hSg, kbg, hbg⟩, by simp only [intOf]; omega⟩
        · clear hp
          have zz3 : (0 : Int) ≤ (Z : Int) - 1 := by omega
          have zz4 : (Z : Int) - 1 ≤ (Z : Int) := by omega
          cases B with
          | true =>
            have CH := CLN (W.extract 0 (Z - 1)) V (by rw [ByteArray.size_extract, Hnow.out]; omega)
            clear COK CWK CCH CLN
            go_wp2_with (first
              | (go_at_call 13; refine (EN gb _ kb9).mono ?_; rintro e y1 ⟨rfl, d1⟩; have hSa := Ow.slots_below d1 hS9; have kba := Bk.key_kept d1 kb9; have hba := Cb.keepB hb9 d1)
              | (go_at_call 14; refine (CK _).mono ?_; rintro e y2 ⟨rfl, d2⟩; have hSb := Ow.slots_below d2 hSa; have kbb := Bk.key_kept d2 kba; have hbb := Cb.keepB hba d2; have hc4 := hcl _ hbb)
              | (go_at_call 5; refine (PC _).mono ?_; rintro e y3 ⟨rfl, h3⟩; rw [h3])
              | (go_at_call 15; refine (WK _).mono ?_; rintro e y4 ⟨rfl, d4⟩; have hSc := Ow.slots_below d4 hSb; have kbc := Bk.key_kept d4 kbb; have hbc := Cb.keepB hbb d4)
              | (go_at_call 16; refine (CH b d _ hSc).mono ?_; rintro e y5 ⟨rfl, hSd, fd⟩; have kbd := Cg.key_fr fd hSc kbc; have hbd := Cg.fb hbc lwb lwd fd)
              | (go_at_call 9; refine (T0n _ hSd).mono ?_; rintro e y6 ⟨rfl, hSe, fe⟩; have kbe := Cg.key_fr fe hSd kbd; have hbe := Cg.fb hbd lwb lwd fe)
              | (go_at_call 10; refine (TGn _).mono ?_; rintro e y7 ⟨rfl, d7⟩; have hSf := Ow.slots_below d7 hSe; have kbf := Bk.key_kept d7 kbe; have hbf := Cb.keepB hbe d7)
              | (go_at_call 17; refine (R0n _ hSf).mono ?_; rintro e y8 ⟨rfl, hSg, fg⟩; have kbg := Cg.key_fr fg hSf kbf; have hbg := Cg.fb hbf lwb lwd fg))
            obtain ⟨hlt, hrd⟩ := hH.out
            exact ⟨⟨j + 1, rd, now, by omega, by omega, rfl, rfl, by simp, Hnow.out, hSg, kbg, hbg⟩, by simp only [intOf]; omega⟩
          | false =>
            have CH := CLN (W.extract 0 (Z - 1)) V (by rw [ByteArray.size_extract, Hnow.out]; omega)
            clear COK CWK CCH CLN
            go_wp2_with (first
              | (go_at_call 13; refine (EN gb _ kb9).mono ?_; rintro e y1 ⟨rfl, d1⟩; have hSa := Ow.slots_below d1 hS9; have kba := Bk.key_kept d1 kb9; have hba := Cb.keepB hb9 d1)
              | (go_at_call 14; refine (CK _).mono ?_; rintro e y2 ⟨rfl, d2⟩; have hSb := Ow.slots_below d2 hSa; have kbb := Bk.key_kept d2 kba; have hbb := Cb.keepB hba d2; have hc4 := hcl _ hbb)
              | (go_at_call 5; refine (PC _).mono ?_; rintro e y3 ⟨rfl, h3⟩; rw [h3])
              | (go_at_call 15; refine (WK _).mono ?_; rintro e y4 ⟨rfl, d4⟩; have hSc := Ow.slots_below d4 hSb; have kbc := Bk.key_kept d4 kbb; have hbc := Cb.keepB hbb d4)
              | (go_at_call 16; refine (CH b d _ hSc).mono ?_; rintro e y5 ⟨rfl, hSd, fd⟩; have kbd := Cg.key_fr fd hSc kbc; have hbd := Cg.fb hbc lwb lwd fd)
              | (go_at_call 9; refine (T0n _ hSd).mono ?_; rintro e y6 ⟨rfl, hSe, fe⟩; have kbe := Cg.key_fr fe hSd kbd; have hbe := Cg.fb hbd lwb lwd fe)
              | (go_at_call 10; refine (TGn _).mono ?_; rintro e y7 ⟨rfl, d7⟩; have hSf := Ow.slots_below d7 hSe; have kbf := Bk.key_kept d7 kbe; have hbf := Cb.keepB hbe d7)
              | (go_at_call 17; refine (R0n _ hSf).mono ?_; rintro e y8 ⟨rfl, hSg, fg⟩; have kbg := Cg.key_fr fg hSf kbf; have hbg := Cg.fb hbf lwb lwd fg))
            obtain ⟨hlt, hrd⟩ := hH.out
            exact ⟨⟨j + 1, rd, now, by omega, by omega, rfl, rfl, by simp, Hnow.out, hSg, kbg, hbg⟩, by simp only [intOf]; omega⟩
        · clear hp
          cases B with
          | true =>
            have CH := CWK rfl (V.extract 0 1) (.inl (by rw [ByteArray.size_extract, sV]; decide))
            clear COK CWK CCH CLN
            go_wp2_with (first
              | (go_at_call 13; refine (EN gb _ kb9).mono ?_; rintro e y1 ⟨rfl, d1⟩; have hSa := Ow.slots_below d1 hS9; have kba := Bk.key_kept d1 kb9; have hba := Cb.keepB hb9 d1)
              | (go_at_call 14; refine (CK _).mono ?_; rintro e y2 ⟨rfl, d2⟩; have hSb := Ow.slots_below d2 hSa; have kbb := Bk.key_kept d2 kba; have hbb := Cb.keepB hba d2; have hc4 := hcl _ hbb)
              | (go_at_call 5; refine (PC _).mono ?_; rintro e y3 ⟨rfl, h3⟩; rw [h3])
              | (go_at_call 15; refine (WK _).mono ?_; rintro e y4 ⟨rfl, d4⟩; have hSc := Ow.slots_below d4 hSb; have kbc := Bk.key_kept d4 kbb; have hbc := Cb.keepB hbb d4)
              | (go_at_call 16; refine (CH b d _ hSc).mono ?_; rintro e y5 ⟨rfl, hSd, fd⟩; have kbd := Cg.key_fr fd hSc kbc; have hbd := Cg.fb hbc lwb lwd fd)
              | (go_at_call 9; refine (T0n _ hSd).mono ?_; rintro e y6 ⟨rfl, hSe, fe⟩; have kbe := Cg.key_fr fe hSd kbd; have hbe := Cg.fb hbd lwb lwd fe)
              | (go_at_call 10; refine (TGn _).mono ?_; rintro e y7 ⟨rfl, d7⟩; have hSf := Ow.slots_below d7 hSe; have kbf := Bk.key_kept d7 kbe; have hbf := Cb.keepB hbe d7)
              | (go_at_call 17; refine (R0n _ hSf).mono ?_; rintro e y8 ⟨rfl, hSg, fg⟩; have kbg := Cg.key_fr fg hSf kbf; have hbg := Cg.fb hbf lwb lwd fg))
            obtain ⟨hlt, hrd⟩ := hH.out
            exact ⟨⟨j + 1, rd, now, by omega, by omega, rfl, rfl, by simp, Hnow.out, hSg, kbg, hbg⟩, by simp only [intOf]; omega⟩
          | false =>
            have CH := CCH rfl (V.extract 0 1) (by rw [ByteArray.size_extract, sV]; decide)
            clear COK CWK CCH CLN
            go_wp2_with (first
              | (go_at_call 13; refine (EN gb _ kb9).mono ?_; rintro e y1 ⟨rfl, d1⟩; have hSa := Ow.slots_below d1 hS9; have kba := Bk.key_kept d1 kb9; have hba := Cb.keepB hb9 d1)
              | (go_at_call 14; refine (CK _).mono ?_; rintro e y2 ⟨rfl, d2⟩; have hSb := Ow.slots_below d2 hSa; have kbb := Bk.key_kept d2 kba; have hbb := Cb.keepB hba d2; have hc4 := hcl _ hbb)
              | (go_at_call 5; refine (PC _).mono ?_; rintro e y3 ⟨rfl, h3⟩; rw [h3])
              | (go_at_call 15; refine (WK _).mono ?_; rintro e y4 ⟨rfl, d4⟩; have hSc := Ow.slots_below d4 hSb; have kbc := Bk.key_kept d4 kbb; have hbc := Cb.keepB hbb d4)
              | (go_at_call 16; refine (CH b d _ hSc).mono ?_; rintro e y5 ⟨rfl, hSd, fd⟩; have kbd := Cg.key_fr fd hSc kbc; have hbd := Cg.fb hbc lwb lwd fd)
              | (go_at_call 9; refine (T0n _ hSd).mono ?_; rintro e y6 ⟨rfl, hSe, fe⟩; have kbe := Cg.key_fr fe hSd kbd; have hbe := Cg.fb hbd lwb lwd fe)
              | (go_at_call 10; refine (TGn _).mono ?_; rintro e y7 ⟨rfl, d7⟩; have hSf := Ow.slots_below d7 hSe; have kbf := Bk.key_kept d7 kbe; have hbf := Cb.keepB hbe d7)
              | (go_at_call 17; refine (R0n _ hSf).mono ?_; rintro e y8 ⟨rfl, hSg, fg⟩; have kbg := Cg.key_fr fg hSf kbf; have hbg := Cg.fb hbf lwb lwd fg))
            obtain ⟨hlt, hrd⟩ := hH.out
            exact ⟨⟨j + 1, rd, now, by omega, by omega, rfl, rfl, by simp, Hnow.out, hSg, kbg, hbg⟩, by simp only [intOf]; omega⟩
        · have r1 : ((p : Int) == 1) = false := by simp only [beq_eq_false_iff_ne]; omega
          have r2 : ((p : Int) == 2) = false := by simp only [beq_eq_false_iff_ne]; omega
          have r3 : ((p : Int) == 3) = false := by simp only [beq_eq_false_iff_ne]; omega
          clear hp hpo
          cases B with
          | true =>
            have CH := CWK rfl V (.inr rfl)
            clear COK CWK CCH CLN
            go_wp2_with (first
              | (go_at_call 13; refine (EN gb _ kb9).mono ?_; rintro e y1 ⟨rfl, d1⟩; have hSa := Ow.slots_below d1 hS9; have kba := Bk.key_kept d1 kb9; have hba := Cb.keepB hb9 d1)
              | (go_at_call 14; refine (CK _).mono ?_; rintro e y2 ⟨rfl, d2⟩; have hSb := Ow.slots_below d2 hSa; have kbb := Bk.key_kept d2 kba; have hbb := Cb.keepB hba d2; have hc4 := hcl _ hbb)
              | (go_at_call 5; refine (PC _).mono ?_; rintro e y3 ⟨rfl, h3⟩; rw [h3])
              | (go_at_call 15; refine (WK _).mono ?_; rintro e y4 ⟨rfl, d4⟩; have hSc := Ow.slots_below d4 hSb; have kbc := Bk.key_kept d4 kbb; have hbc := Cb.keepB hbb d4)
              | (go_at_call 16; refine (CH b d _ hSc).mono ?_; rintro e y5 ⟨rfl, hSd, fd⟩; have kbd := Cg.key_fr fd hSc kbc; have hbd := Cg.fb hbc lwb lwd fd)
              | (go_at_call 9; refine (T0n _ hSd).mono ?_; rintro e y6 ⟨rfl, hSe, fe⟩; have kbe := Cg.key_fr fe hSd kbd; have hbe := Cg.fb hbd lwb lwd fe)
              | (go_at_call 10; refine (TGn _).mono ?_; rintro e y7 ⟨rfl, d7⟩; have hSf := Ow.slots_below d7 hSe; have kbf := Bk.key_kept d7 kbe; have hbf := Cb.keepB hbe d7)
              | (go_at_call 17; refine (R0n _ hSf).mono ?_; rintro e y8 ⟨rfl, hSg, fg⟩; have kbg := Cg.key_fr fg hSf kbf; have hbg := Cg.fb hbf lwb lwd fg))
            obtain ⟨hlt, hrd⟩ := hH.out
            exact ⟨⟨j + 1, rd, now, by omega, by omega, rfl, rfl, by simp, Hnow.out, hSg, kbg, hbg⟩, by simp only [intOf]; omega⟩
          | false =>
            have CH := COK rfl
            clear COK CWK CCH CLN
            go_wp2_with (first
              | (go_at_call 13; refine (EN gb _ kb9).mono ?_; rintro e y1 ⟨rfl, d1⟩; have hSa := Ow.slots_below d1 hS9; have kba := Bk.key_kept d1 kb9; have hba := Cb.keepB hb9 d1)
              | (go_at_call 14; refine (CK _).mono ?_; rintro e y2 ⟨rfl, d2⟩; have hSb := Ow.slots_below d2 hSa; have kbb := Bk.key_kept d2 kba; have hbb := Cb.keepB hba d2; have hc4 := hcl _ hbb)
              | (go_at_call 5; refine (PC _).mono ?_; rintro e y3 ⟨rfl, h3⟩; rw [h3])
              | (go_at_call 15; refine (WK _).mono ?_; rintro e y4 ⟨rfl, d4⟩; have hSc := Ow.slots_below d4 hSb; have kbc := Bk.key_kept d4 kbb; have hbc := Cb.keepB hbb d4)
              | (go_at_call 16; refine (CH b d _ hSc).mono ?_; rintro e y5 ⟨rfl, hSd, fd⟩; have kbd := Cg.key_fr fd hSc kbc; have hbd := Cg.fb hbc lwb lwd fd)
              | (go_at_call 9; refine (T0k _ hSd).mono ?_; rintro e y6 ⟨rfl, hSe, fe⟩; have kbe := Cg.key_fr fe hSd kbd; have hbe := Cg.fb hbd lwb lwd fe)
              | (go_at_call 10; refine (TGk _).mono ?_; rintro e y7 ⟨rfl, d7⟩; have hSf := Ow.slots_below d7 hSe; have kbf := Bk.key_kept d7 kbe; have hbf := Cb.keepB hbe d7)
              | (go_at_call 17; refine (R0k _ hSf).mono ?_; rintro e y8 ⟨rfl, hSg, fg⟩; have kbg := Cg.key_fr fg hSf kbf; have hbg := Cg.fb hbf lwb lwd fg))
            obtain ⟨hlt, hrd⟩ := hH.out
            exact ⟨⟨j + 1, rd + 1, k, by omega, by omega, rfl, by simp, by simp, Hk.out, hSg, kbg, hbg⟩, by simp only [intOf]; omega⟩
      · have q4 : ¬ (j : Int) < (z4.length : Int) := by omega
        clear hj4
        cases B with
        | true =>
          have CH := CWK rfl V (.inr rfl)
          clear COK CWK CCH CLN
          go_wp2_with (first
            | (go_at_call 13; refine (EN gb _ kb9).mono ?_; rintro e y1 ⟨rfl, d1⟩; have hSa := Ow.slots_below d1 hS9; have kba := Bk.key_kept d1 kb9; have hba := Cb.keepB hb9 d1)
            | (go_at_call 14; refine (CK _).mono ?_; rintro e y2 ⟨rfl, d2⟩; have hSb := Ow.slots_below d2 hSa; have kbb := Bk.key_kept d2 kba; have hbb := Cb.keepB hba d2)
            | (go_at_call 15; refine (WK _).mono ?_; rintro e y4 ⟨rfl, d4⟩; have hSc := Ow.slots_below d4 hSb; have kbc := Bk.key_kept d4 kbb; have hbc := Cb.keepB hbb d4)
            | (go_at_call 16; refine (CH b d _ hSc).mono ?_; rintro e y5 ⟨rfl, hSd, fd⟩; have kbd := Cg.key_fr fd hSc kbc; have hbd := Cg.fb hbc lwb lwd fd)
            | (go_at_call 9; refine (T0n _ hSd).mono ?_; rintro e y6 ⟨rfl, hSe, fe⟩; have kbe := Cg.key_fr fe hSd kbd; have hbe := Cg.fb hbd lwb lwd fe)
            | (go_at_call 10; refine (TGn _).mono ?_; rintro e y7 ⟨rfl, d7⟩; have hSf := Ow.slots_below d7 hSe; have kbf := Bk.key_kept d7 kbe; have hbf := Cb.keepB hbe d7)
            | (go_at_call 17; refine (R0n _ hSf).mono ?_; rintro e y8 ⟨rfl, hSg, fg⟩; have kbg := Cg.key_fr fg hSf kbf; have hbg := Cg.fb hbf lwb lwd fg))
          obtain ⟨hlt, hrd⟩ := hH.out
          exact ⟨⟨j + 1, rd, now, by omega, by omega, rfl, rfl, by simp, Hnow.out, hSg, kbg, hbg⟩, by simp only [intOf]; omega⟩
        | false =>
          have CH := COK rfl
          clear COK CWK CCH CLN
          go_wp2_with (first
            | (go_at_call 13; refine (EN gb _ kb9).mono ?_; rintro e y1 ⟨rfl, d1⟩; have hSa := Ow.slots_below d1 hS9; have kba := Bk.key_kept d1 kb9; have hba := Cb.keepB hb9 d1)
            | (go_at_call 14; refine (CK _).mono ?_; rintro e y2 ⟨rfl, d2⟩; have hSb := Ow.slots_below d2 hSa; have kbb := Bk.key_kept d2 kba; have hbb := Cb.keepB hba d2)
            | (go_at_call 15; refine (WK _).mono ?_; rintro e y4 ⟨rfl, d4⟩; have hSc := Ow.slots_below d4 hSb; have kbc := Bk.key_kept d4 kbb; have hbc := Cb.keepB hbb d4)
            | (go_at_call 16; refine (CH b d _ hSc).mono ?_; rintro e y5 ⟨rfl, hSd, fd⟩; have kbd := Cg.key_fr fd hSc kbc; have hbd := Cg.fb hbc lwb lwd fd)
            | (go_at_call 9; refine (T0k _ hSd).mono ?_; rintro e y6 ⟨rfl, hSe, fe⟩; have kbe := Cg.key_fr fe hSd kbd; have hbe := Cg.fb hbd lwb lwd fe)
            | (go_at_call 10; refine (TGk _).mono ?_; rintro e y7 ⟨rfl, d7⟩; have hSf := Ow.slots_below d7 hSe; have kbf := Bk.key_kept d7 kbe; have hbf := Cb.keepB hbe d7)
            | (go_at_call 17; refine (R0k _ hSf).mono ?_; rintro e y8 ⟨rfl, hSg, fg⟩; have kbg := Cg.key_fr fg hSf kbf; have hbg := Cg.fb hbf lwb lwd fg))
          obtain ⟨hlt, hrd⟩ := hH.out
          exact ⟨⟨j + 1, rd + 1, k, by omega, by omega, rfl, by simp, by simp, Hk.out, hSg, kbg, hbg⟩, by simp only [intOf]; omega⟩
    · have ej : j = z3.length := by omega
      subst ej
      have q1 : ¬ (z3.length : Int) < (z3.length : Int) := by omega
      have q2 : (Z : Int) ≤ (x.size : Int) := by omega
      have q3 : (0 : Int) ≤ (Z : Int) := by omega
      have q4 : ((WAS.size : Int) != 8) = false := by rw [s8]; rfl
      have q5 : WAS.size = 8 := s8
      clear HP T0 R0 FK TG hj hrd HL
      go_wp2_with (first
        | (go_at_call 9; refine (T1 now rd _ hS).mono ?_; rintro e y1 ⟨rfl, hSa, fa⟩)
        | (go_at_call_of 17 (Value.int .i64 1); refine (R1 now rd _ hSa).mono ?_; rintro e y2 ⟨rfl, hSb, fb⟩)
        | (go_at_call 8; refine (PE now rd hnow _ hSb).mono ?_; rintro e y3 ⟨rfl, hSc, fc⟩)
        | (go_at_call 16; refine (CX _ now _ _ b d _ hSc).mono ?_; rintro e y4 ⟨rfl, hSd, fd⟩)
        | (go_at_call 17; refine (RX _ now b d _ hSd).mono ?_; rintro e y5 ⟨rfl, hSe, fe⟩))
      go_ret
      exact ⟨by simp, Cg.fb hb lwb lwd ((((fa.trans fb).trans fc).trans fd).trans fe)⟩

set_option maxRecDepth 100000 in
theorem contract (H : Type) (enc : TypeId × Value → H) (W : World) (base : Nat) (args : Array Value) (ds gs : List (DataW H)) (before : List MemPlace)
    (hval : ∀ (j : Nat) t v, Try.f4.params[j]? = some t → args[j]? = some v → Value.okWide Try.prog W .any base t v)
    (hW : DataW.Whole enc Try.prog Try.f4.params.toList Rows.sealChangesSpec.vars false W args.toList ds gs before) (hk : Rows.uptoSmall H (ds ++ gs) = true) :
    Calls Try.prog 4 args W fun e W' => ∃ v, e = .returned v ∧ Rows.sealChangesSpec.post enc Try.prog Try.f4 false true false false W args v W' := by
  have hW' := hW
  obtain ⟨p, q, hA0, hV, rfl, hfz, hnd⟩ := hW
  have hA : DataW.TrodAll enc Try.prog W 0 (fun _ => true) true Try.f4.params.toList args.toList ds p := hA0
  rw [Try.params4] at hA hval
  obtain ⟨v0, vs0, d0, ds0, p0, q0, hargs, rfl, rfl, h0, r0⟩ := trodAll_cons hA
  obtain ⟨v1, vs1, d1, ds1, p1, q1, rfl, rfl, rfl, h1, r1⟩ := trodAll_cons r0
  obtain ⟨v2, vs2, d2, ds2, p2, q2, rfl, rfl, rfl, h2, r2⟩ := trodAll_cons r1
  obtain ⟨v3, vs3, d3, ds3, p3, q3, rfl, rfl, rfl, h3, r3⟩ := trodAll_cons r2
  obtain ⟨v4, vs4, d4, ds4, p4, q4, rfl, rfl, rfl, h4, r4⟩ := trodAll_cons r3
  obtain ⟨v5, vs5, d5, ds5, p5, q5, rfl, rfl, rfl, h5, r5⟩ := trodAll_cons r4
  obtain ⟨rfl, rfl, rfl⟩ := trodAll_nil r5
  obtain rfl : args = #[v0, v1, v2, v3, v4, v5] := by cases args; simp_all
  obtain ⟨rfl, rfl⟩ := trodVars_none hV
  obtain ⟨a0, rfl, rfl, rfl, w0⟩ := open_int Try.underlying3 (hval 0 3 v0 rfl rfl) h0
  obtain ⟨a1, rfl, rfl, rfl, w1⟩ := open_string Try.underlying9 (hval 1 9 v1 rfl rfl) h1
  obtain ⟨a2, rfl, rfl, rfl, w2⟩ := open_string Try.underlying9 (hval 2 9 v2 rfl rfl) h2
  obtain ⟨z3, w3, lt3, bulk3⟩ := Sg.open_sg (hval 3 36 v3 rfl rfl) h3
  obtain ⟨z4, w4, lt4, bulk4⟩ := Sg.open_si (hval 4 37 v4 rfl rfl) h4
  obtain ⟨a5, rfl, rfl, rfl, w5⟩ := open_string Try.underlying9 (hval 5 9 v5 rfl rfl) h5
  clear hA0
  simp only [List.append_nil] at hk
  have hk1 := of_decide_eq_true hk
  simp only [Rows.uptoBulkAll, Rows.uptoBulk] at hk1
  have e1 : a1.data.toList.length = a1.size := by rw [Array.length_toList]; rfl
  have e2 : a2.data.toList.length = a2.size := by rw [Array.length_toList]; rfl
  have e5 : a5.data.toList.length = a5.size := by rw [Array.length_toList]; rfl
  have e3 := bulk3
  have e4 := bulk4
  refine (walk a0 a1 a2 v3 z3 v4 z4 a5 W w0 w1 w2 w3 w4 w5 (by omega) (by omega) (by omega) (by omega) (by omega)).mono fun e W' ⟨he, bel⟩ => ?_
  subst he
  exact ⟨_, rfl, _, _, _, [], _, [], hW', trodAll_mk1 (shut_bool Try.underlying4 _), (trodAll_cons_mk (shut_int Try.underlying3 w0) (trodAll_cons_mk (shut_string Try.underlying9 w1) (trodAll_cons_mk (shut_string Try.underlying9 w2) (trodAll_cons_mk (Below.trod (by kernel_rfl) (by kernel_rfl) (of_decide_eq_true (by kernel_rfl)) h3 bel lt3) (trodAll_cons_mk (Below.trod (by kernel_rfl) (by kernel_rfl) (of_decide_eq_true (by kernel_rfl)) h4 bel lt4) (trodAll_cons_mk (shut_string Try.underlying9 w5) trodAll_mk0)))))), rfl, bel.frame _, fun h => by cases h⟩

set_option maxRecDepth 100000 in
theorem lifted (os : Os) (started : os.Started) (H : Type) (enc : TypeId × Value → H) (F : Stop.Interp) :
    ReturnsInHanded {} Try.checked os 4 .any ((Rows.OpenSpec.upto Rows.sealChangesSpec).pre6 enc Try.prog Try.f4 Rows.sealChangesUptoRow.domain false) (((Rows.OpenSpec.upto Rows.sealChangesSpec).at F).post enc Try.prog Try.f4 false true false false) := by
  refine returnsInHanded_of_cond (C := Try.checked) (s := Rows.OpenSpec.upto Rows.sealChangesSpec) (k := Rows.uptoSmall) rfl own started (by kernel_rfl) Try.func4
    (OpenSpec.witness (enc := enc) (C := Try.checked) (s := Rows.OpenSpec.upto Rows.sealChangesSpec) (k := Rows.uptoSmall) rfl false ⟨#[], #[.int .i64 0, .string .empty, .string .empty, .slice none 0 0, .slice none 0 0, .string .empty], []⟩ 8 (by kernel_rfl) (by kernel_rfl) (by kernel_rfl)
      (x := ([.lit (.int .i64 0), .lit (.string []), .lit (.string []), .nil, .nil, .lit (.string [])], [], [])) (by kernel_rfl) rfl (by kernel_rfl)) ?_
  intro W base args ds gs before hval hW _ hk _
  exact contract H enc W base args ds gs before hval hW hk

theorem proved : Rows.SealChangesUptoSaid :=
  OpenClaim.holds_of_cond 4 Try.f4 rfl rfl rfl rfl rfl rfl rfl ⟨rfl, rfl, rfl, rfl, rfl⟩ rfl rfl rfl rfl rfl (by kernel_rfl) Try.func4 (by kernel_rfl)
    (of_decide_eq_true (by kernel_rfl)) (by unfold Func.isWrapper; first | (rw [if_pos (by decide +kernel)]; kernel_rfl) | (rw [if_neg (by decide +kernel)]; exact ⟨rfl, rfl⟩))
    (fun os started H enc _ F => lifted os started H enc F)
#print axioms proved
end Go.Proofs.Ytpifebapodfeaab.sealChanges
