import Derived.Test.YtpifebapodfeaaaGreatQ17
import Derived.Test.YtpifebapodfeaaaGreatQ10
import Derived.Test.YtpifebapodfeaaaGreatRows
import Derived.WalkKit
import Derived.WalkLawsBesides
import Derived.WalkSpells
/- Change: the program's and the document's, as one function. -/
namespace Go.Proofs.YtpifebapodfeaaaGreat.Dh
set_option linter.unusedVariables false
open Go.RowKit Pla Cb Sm Wd Nw Bk Eb Et Cc Ch Pm Fp Sp Pe Se Tg Sd Sq Sr Dd De Rg Df Wk Sx Sy Dg
open Ck (z64)
def chgE (o : Option Held) (wr ck : ByteArray) : Int := match o with
  | Option.none => 40
  | Option.some h => if h.ex.size = 0 then 40 else if wr.size ≠ h.key.size then 30 else fitE (newKey h.ex wr) ck
def chgO (o : Option Held) (wr : ByteArray) : Option Held := match o with
  | Option.none => Option.none
  | Option.some h => Option.some ⟨h.alg, h.m, newKey h.ex wr, h.ex, min (h.round + 1) 999999999⟩
def chgF (n : Nat) (f : Nat → Option Held) (a : Int) (wr ck : ByteArray) : Nat → Option Held := if chgE (getO n f a) wr ck = 0 then upd f a.toNat (chgO (getO n f a) wr) else f
theorem fitE_cases (k c : ByteArray) : fitE k c = 42 ∨ fitE k c = 0 ∨ fitE k c = 41 := by
  unfold fitE
  split
  · exact .inl rfl
  · split
    · exact .inr (.inl rfl)
    · exact .inr (.inr rfl)
/-- the program's -/
theorem Change_any (b d n : Nat) (f : Nat → Option Held) (a : Int) (hok : ∀ h, getO n f a = Option.some h → h.Ok) (wr ck : ByteArray) (w : World) (hS : Slots w b d n f) :
    Calls Tryz.prog 32 #[.pointer (some ⟨b, 0, Option.none⟩), .int .i64 a, .string wr, .string ck] w fun e w' => e = .returned (.int .i64 (chgE (getO n f a) wr ck)) ∧ Slots w' b d n (chgF n f a wr ck) ∧ Fr b d w w' := by
  rcases in_or n a with ⟨s, rfl, hs⟩ | h
  · unfold chgF
    rw [getO_in n s f hs] at hok ⊢
    cases hf : f s with
    | none =>
      rw [if_neg (by simp [chgE])]
      exact Change_nox b d n s f hs (fun h e => by rw [hf] at e; cases e) wr ck w hS
    | some h =>
      have ok := hok h hf
      by_cases hx : h.ex.size = 0
      · have e : chgE (Option.some h) wr ck = 40 := by simp [chgE, hx]
        rw [e, if_neg (by decide)]
        exact Change_nox b d n s f hs (fun h' e' => by rw [hf] at e'; cases e'; exact hx) wr ck w hS
      · have hx16 : h.ex.size = 16 := by rcases ok.ex with e | e; exact absurd e hx; exact e
        by_cases hw : wr.size = h.key.size
        · have e : chgE (Option.some h) wr ck = fitE (newKey h.ex wr) ck := by simp [chgE, hx, hw]
          rw [e]
          by_cases hE : fitE (newKey h.ex wr) ck = 0
          · rw [if_pos hE, hE, Int.toNat_natCast]
            exact Change_good b d n s f h hs hf hx16 wr ck hw hE w hS
          · rw [if_neg hE]
            exact Change_bad b d n s f h hs hf hx16 wr ck hw _ rfl (by simpa using hE) w hS
        · have e : chgE (Option.some h) wr ck = 30 := by simp [chgE, hx, hw]
          rw [e, if_neg (by decide)]
          exact Change_key b d n s f h hs hf hx16 wr ck hw w hS
  · unfold chgF
    rw [getO_out n f a h]
    rw [if_neg (by simp [chgE])]
    exact Change_out b d n f a h wr ck w hS
theorem min_int (r : Nat) : min ((r : Int) + 1) 999999999 = ((min (r + 1) 999999999 : Nat) : Int) := by
  have key : ∀ (r M : Nat), min ((r : Int) + 1) (M : Int) = ((min (r + 1) M : Nat) : Int) := fun r M => by omega
  exact key r 999999999
/-- key and round written anew -/
theorem dchg {w : World} {b d n s : Nat} {f : Nat → Option Held} {A : Array Value} (hm : DMu w b d n) (n1 : 1 ≤ n) (n2 : n ≤ 32) (hr : DRow w d n f A) (hs : s < n) (h : Held) (hf : f s = Option.some h) (k : ByteArray) (r : Nat) :
    DSlots ((w.setCell ⟨d, s * 6 + 3, Option.none⟩ (.string k)).setCell ⟨d, s * 6 + 5, Option.none⟩ (.int .i64 (r : Int))) b d n (upd f s (Option.some ⟨h.alg, h.m, k, h.ex, r⟩)) ∧ Fr d d w ((w.setCell ⟨d, s * 6 + 3, Option.none⟩ (.string k)).setCell ⟨d, s * 6 + 5, Option.none⟩ (.int .i64 (r : Int))) := by
  have hne := dmu_ne hm hr.2.1
  have F := (Fr.set1 d d w (s * 6 + 3) (.string k)).trans (Fr.set1 d d _ (s * 6 + 5) (.int .i64 (r : Int)))
  have d6 := setCell_heap (setCell_heap hr.2.1 (s * 6 + 3) (.string k)) (s * 6 + 5) (.int .i64 (r : Int))
  have sz := hr.1
  refine ⟨⟨F.keep hm hne hne, n1, n2, _, by simp [sz], d6, fun i hi j hj => ?_⟩, F⟩
  simp only [Array.getElem?_setIfInBounds, Array.size_setIfInBounds]
  by_cases ei : i = s
  · subst ei
    have h6 := hr.2.2 i hi
    rw [hf] at h6
    rw [upd, if_pos rfl]
    match j, hj with
    | 0, _ => rw [if_neg (by omega), if_neg (by omega)]; exact h6 0 (by decide)
    | 1, _ => rw [if_neg (by omega), if_neg (by omega)]; exact h6 1 (by decide)
    | 2, _ => rw [if_neg (by omega), if_neg (by omega)]; exact h6 2 (by decide)
    | 3, _ => rw [if_neg (by omega), if_pos (by omega), if_pos (by omega)]; rfl
    | 4, _ => rw [if_neg (by omega), if_neg (by omega)]; exact h6 4 (by decide)
    | 5, _ => rw [if_pos (by omega), if_pos (by omega)]; rfl
  · rw [upd, if_neg ei, if_neg (by omega), if_neg (by omega)]
    exact hr.2.2 i hi j hj
theorem dchg2 {w : World} {b d n s : Nat} {f : Nat → Option Held} (hS : DSlots w b d n f) (hs : s < n) (h : Held) (hf : f s = Option.some h) (k : ByteArray) (r : Nat) :
    DSlots ((w.setCell ⟨d, s * 6 + 3, Option.none⟩ (.string k)).setCell ⟨d, s * 6 + 5, Option.none⟩ (.int .i64 (r : Int))) b d n (upd f s (Option.some ⟨h.alg, h.m, k, h.ex, r⟩)) ∧ Fr d d w ((w.setCell ⟨d, s * 6 + 3, Option.none⟩ (.string k)).setCell ⟨d, s * 6 + 5, Option.none⟩ (.int .i64 (r : Int))) := by
  obtain ⟨m1, m2, m3, A, m4⟩ := hS
  exact dchg m1 m2 m3 m4 hs h hf k r
theorem emp_ba (x : ByteArray) (h : x.size = 0) : x = ⟨#[]⟩ := by
  apply ByteArray.ext
  exact Array.eq_empty_of_size_eq_zero h
theorem ex_ne (x : ByteArray) (h : x.size = 16) : (x.toList == (ByteArray.mk #[]).toList) = false := (Lib.bytes_beq_false_iff x _).2 fun e => by rw [e] at h; cases h
set_option maxRecDepth 100000 in
set_option maxHeartbeats 1600000 in
theorem Changer_none (b d n : Nat) (f : Nat → Option Held) (a : Int) (ho : getO n f a = Option.none) (wr ck : ByteArray) (w : World) (hS : DSlots w b d n f) :
    Calls Tryz.prog 33 #[.pointer (some ⟨b, 0, Option.none⟩), .int .i64 a, .string wr, .string ck] w fun e w' => e = .returned (.int .i64 40) ∧ Below w.heap.size w w' := by
  have AT := fun y hy => atr_any b d n f a y hy
  rw [ho] at AT
  simp only [dC, hasB] at AT
  clear ho
  go_enter Tryz.func33, Tryz.ntmps33
  go_wp2_with (go_at_call 24; refine (AT _ hS).mono ?_; rintro e y ⟨rfl, hy⟩)
  go_ret
  exact ⟨rfl, keepB hy (below_one y _)⟩
set_option maxRecDepth 100000 in
set_option maxHeartbeats 1600000 in
theorem Changer_nox (b d n : Nat) (f : Nat → Option Held) (a : Int) (h : Held) (ho : getO n f a = Option.some h) (hx : h.ex.size = 0) (wr ck : ByteArray) (w : World) (hS : DSlots w b d n f) :
    Calls Tryz.prog 33 #[.pointer (some ⟨b, 0, Option.none⟩), .int .i64 a, .string wr, .string ck] w fun e w' => e = .returned (.int .i64 40) ∧ Below w.heap.size w w' := by
  have AT := fun y hy => atr_any b d n f a y hy
  rw [ho] at AT
  simp only [dC, hasB, emp_ba h.ex hx] at AT
  clear ho hx
  go_enter Tryz.func33, Tryz.ntmps33
  go_wp2_with (go_at_call 24; refine (AT _ hS).mono ?_; rintro e y ⟨rfl, hy⟩)
  go_ret
  exact ⟨rfl, keepB hy (below_one y _)⟩
set_option maxRecDepth 100000 in
set_option maxHeartbeats 1600000 in
theorem Changer_len (b d n : Nat) (f : Nat → Option Held) (a : Int) (h : Held) (ho : getO n f a = Option.some h) (hx : h.ex.size = 16) (wr ck : ByteArray) (hw : wr.size ≠ h.key.size) (w : World) (hS : DSlots w b d n f) :
    Calls Tryz.prog 33 #[.pointer (some ⟨b, 0, Option.none⟩), .int .i64 a, .string wr, .string ck] w fun e w' => e = .returned (.int .i64 30) ∧ Below w.heap.size w w' := by
  have AT := fun y hy => atr_any b d n f a y hy
  rw [ho] at AT
  simp only [dC, hasB] at AT
  have e1 : h.ex.toList.isEmpty = false := by have := ex_ne h.ex hx; simpa using this
  have q : ((wr.size : Int) != (h.key.size : Int)) = true := by simp only [bne_iff_ne]; omega
  clear ho hx hw
  go_enter Tryz.func33, Tryz.ntmps33
  go_wp2_with (go_at_call 24; refine (AT _ hS).mono ?_; rintro e y ⟨rfl, hy⟩)
  go_ret
  exact ⟨rfl, keepB hy (below_one y _)⟩
set_option maxRecDepth 100000 in
set_option maxHeartbeats 1600000 in
theorem Changer_fit (b d n s : Nat) (f : Nat → Option Held) (hs : s < n) (h : Held) (hf : f s = Option.some h) (ok : h.Ok) (hx : h.ex.size = 16) (wr ck : ByteArray) (hw : wr.size = h.key.size) (w : World) (hS : DSlots w b d n f) :
    Calls Tryz.prog 33 #[.pointer (some ⟨b, 0, Option.none⟩), .int .i64 (s : Int), .string wr, .string ck] w fun e w' => e = .returned (.int .i64 (fitE (newKey h.ex wr) ck)) ∧
      DSlots w' b d n (if fitE (newKey h.ex wr) ck = 0 then upd f s (Option.some ⟨h.alg, h.m, newKey h.ex wr, h.ex, min (h.round + 1) 999999999⟩) else f) ∧ Fr d d w w' := by
  have AT := fun y hy => atr_any b d n f (s : Int) y hy
  rw [getO_in n s f hs, hf] at AT
  simp only [dC, hasB] at AT
  have e1 : h.ex.toList.isEmpty = false := by have := ex_ne h.ex hx; simpa using this
  obtain ⟨N, hN, hN2⟩ : ∃ N, wr.size = 8 * N ∧ (N = 1 ∨ N = 2) := by
    rcases ok.alg with e | e
    · exact ⟨1, by rw [hw, ok.key, e], .inl rfl⟩
    · exact ⟨2, by rw [hw, ok.key, e], .inr rfl⟩
  have TU := fun y => Ru.turn_ref h.ex wr true (.inr (.inl hx)) N hN (by omega) y
  have et : Ru.turnB h.ex.data.toList true wr N = newKey h.ex wr := (Tu.map_turn h.ex wr N hN true).symm
  rw [et] at TU
  have nks := newKey_size h.ex wr N hN
  have hz : ¬ kindN (newKey h.ex wr).size = 0 := by rw [nks]; rcases hN2 with rfl | rfl <;> decide
  have WE := fun y => Ow.weak_ref (newKey h.ex wr) y
  have CK := fun y => Ok.check_ref (newKey h.ex wr) hz y
  change ∀ y, Calls _ _ _ y fun e w' => e = .returned (.tuple #[.string (chk (newKey h.ex wr)), .int .i64 0]) ∧ _ at CK
  have q : ((wr.size : Int) != (h.key.size : Int)) = false := by simp only [bne_eq_false_iff_eq]; omega
  have hfE : fitE (newKey h.ex wr) ck = if wkU (newKey h.ex wr) (kindN (newKey h.ex wr).size) = true then 42 else if ((chk (newKey h.ex wr)).toList == ck.toList) = true then 0 else 41 := rfl
  have q2 : (s : Int) < (n : Int) := by omega
  have q3 : (0 : Int) ≤ (s : Int) := by omega
  have hrd := ok.round
  have q5 : (h.round : Int) ≤ 999999999 := by omega
  have mi := min_int h.round
  have RT : ∀ y : World, DSlots y b d n f → ∃ A, DMu y b d n ∧ 1 ≤ n ∧ n ≤ 32 ∧ DRow y d n f A := fun y hy => by obtain ⟨m1, m2, m3, A, m4⟩ := hy; exact ⟨A, m1, m2, m3, m4⟩
  have FIN := fun (y : World) (hy : DSlots y b d n f) => dchg2 hy hs h hf (newKey h.ex wr) (min (h.round + 1) 999999999)
  have CE : ∀ y : World, DSlots y b d n f → y.cell? ⟨b, 0, Option.none⟩ = some (.slice (some ⟨d, 0, Option.none⟩) n n) ∧ y.cell? ⟨d, s * 6 + 3, Option.none⟩ = some (.string h.key) ∧ y.cell? ⟨d, s * 6 + 5, Option.none⟩ = some (.int .i64 (h.round : Int)) ∧ y.frozen? ⟨d, s * 6 + 3, Option.none⟩ = false ∧ y.frozen? ⟨d, s * 6 + 5, Option.none⟩ = false := fun y hy => by
    obtain ⟨A, m1, m2, m3, m4⟩ := RT y hy
    obtain ⟨c0, c1, c2, c3, c4, c5⟩ := six m4 hs (.bool true) (.int .i64 (h.alg : Int)) (.int .i64 (h.m : Int)) (.string h.key) (.string h.ex) (.int .i64 (h.round : Int)) (by rw [hf]; rfl)
    exact ⟨DMu.cell m1, c3, c5, Pd.R_frozen m4.2.1 _, Pd.R_frozen m4.2.1 _⟩
  have HBD : Hid (b ≠ d) := by obtain ⟨m1, m2, m3, A, m4⟩ := hS; exact dmu_ne m1 m4.2.1
  have LD : Hid (d < w.heap.size) := by obtain ⟨m1, m2, m3, A, m4⟩ := hS; exact (Array.getElem?_eq_some_iff.1 m4.2.1).1
  have HE : Hid (fitE (newKey h.ex wr) ck = if wkU (newKey h.ex wr) (kindN (newKey h.ex wr).size) = true then 42 else if ((chk (newKey h.ex wr)).toList == ck.toList) = true then 0 else 41) := hfE
  generalize fitE (newKey h.ex wr) ck = E at *
  generalize wkU (newKey h.ex wr) (kindN (newKey h.ex wr).size) = B at *
  generalize hub : upd f s (Option.some ⟨h.alg, h.m, newKey h.ex wr, h.ex, min (h.round + 1) 999999999⟩) = f' at *
  generalize chk (newKey h.ex wr) = CC at *
  generalize newKey h.ex wr = nk at *
  generalize (min (h.round + 1) 999999999 : Nat) = nr at *
  clear RT hfE et nks hz hN hN2 hw hx ok hs hrd hub
  cases B with
  | true =>
    have e2 : E = 42 := by have := HE.out; simpa using this
    subst e2
    rw [if_neg (show ¬ (42 : Int) = 0 by decide)]
    clear HE
    go_enter Tryz.func33, Tryz.ntmps33
    go_wp2_with (first
      | (go_at_call 24; refine (AT _ hS).mono ?_; rintro e y ⟨rfl, hy⟩; have hy1 := keepB hy (below_one y (Obj.cells #[.bool true, .int .i64 (h.alg : Int), .int .i64 (h.m : Int), .string h.key, .string h.ex, .int .i64 (h.round : Int)] 67)))
      | (go_at_call 43; refine (TU _).mono ?_; rintro e y2 ⟨rfl, hy2⟩)
      | (go_at_call 50; refine (WE _).mono ?_; rintro e y3 ⟨rfl, hy3⟩))
    go_ret
    have BB := keepB (keepB hy1 hy2) hy3
    exact ⟨rfl, dslots_below BB hS, Fr.of BB⟩
  | false =>
    by_cases hS2 : (CC.toList == ck.toList) = true
    · have e2 : E = 0 := by have := HE.out; rw [hS2] at this; simpa using this
      subst e2
      rw [if_pos rfl]
      clear HE
      go_enter Tryz.func33, Tryz.ntmps33
      go_wp2_with (first
        | (go_at_call 24; refine (AT _ hS).mono ?_; rintro e y ⟨rfl, hy⟩; have hy1 := keepB hy (below_one y (Obj.cells #[.bool true, .int .i64 (h.alg : Int), .int .i64 (h.m : Int), .string h.key, .string h.ex, .int .i64 (h.round : Int)] 67)); have hx1 := h1_0 y (Obj.cells #[.bool true, .int .i64 (h.alg : Int), .int .i64 (h.m : Int), .string h.key, .string h.ex, .int .i64 (h.round : Int)] 67))
        | (go_at_call 43; refine (TU _).mono ?_; rintro e y2 ⟨rfl, hy2⟩)
        | (go_at_call 50; refine (WE _).mono ?_; rintro e y3 ⟨rfl, hy3⟩)
        | (go_at_call 47; refine (CK _).mono ?_; rintro e y4 ⟨rfl, hy4⟩; have BB := keepB (keepB (keepB hy1 hy2) hy3) hy4; have SS := dslots_below BB hS; obtain ⟨k0, k1, k2, k3, k4⟩ := CE _ SS; have xr := Cb.kept (keepB (keepB hy2 hy3) hy4) hx1))
      obtain ⟨FS, FF⟩ := FIN _ SS
      have ly : y.heap.size ≠ d := by have := hy.size; have := LD.out; omega
      have t0 : (y4.setCell ⟨d, s * 6 + 3, Option.none⟩ (.string nk)).cell? ⟨b, 0, Option.none⟩ = some (.slice (some ⟨d, 0, Option.none⟩) n n) := (World.cell?_setCell_other y4 ⟨d, s * 6 + 3, Option.none⟩ ⟨b, 0, Option.none⟩ _ (fun e => HBD.out (congrArg Addr.block e).symm)).trans k0
      have t1 : (y4.setCell ⟨d, s * 6 + 3, Option.none⟩ (.string nk)).cell? ⟨y.heap.size, 5, Option.none⟩ = some (.int .i64 (h.round : Int)) := (World.cell?_setCell_other y4 ⟨d, s * 6 + 3, Option.none⟩ ⟨y.heap.size, 5, Option.none⟩ _ (fun e => ly (congrArg Addr.block e).symm)).trans (by rw [cell_of_row y4 _ 5 _ _ _ xr]; rfl)
      have t2 : (y4.setCell ⟨d, s * 6 + 3, Option.none⟩ (.string nk)).cell? ⟨d, s * 6 + 5, Option.none⟩ = some (.int .i64 (h.round : Int)) := (World.cell?_setCell_other y4 ⟨d, s * 6 + 3, Option.none⟩ ⟨d, s * 6 + 5, Option.none⟩ _ (fun e => by have := congrArg Addr.off e; simp at this)).trans k2
      have t3 : (y4.setCell ⟨d, s * 6 + 3, Option.none⟩ (.string nk)).frozen? ⟨d, s * 6 + 5, Option.none⟩ = false := by simp [k4]
      have FB : Fr d d w y4 := Fr.of BB
      clear k0 k1 k2 k3 k4 xr hx1 SS
      generalize y4.setCell ⟨d, s * 6 + 3, Option.none⟩ (.string nk) = W5 at *
      go_region
      go_wp2
      go_ret
      exact ⟨rfl, dslots_keep FS rfl rfl, FB.trans FF⟩
    · have hS3 : (CC.toList == ck.toList) = false := by simpa using hS2
      have e2 : E = 41 := by have := HE.out; rw [hS3] at this; simpa using this
      subst e2
      rw [if_neg (show ¬ (41 : Int) = 0 by decide)]
      clear HE hS2
      go_enter Tryz.func33, Tryz.ntmps33
      go_wp2_with (first
        | (go_at_call 24; refine (AT _ hS).mono ?_; rintro e y ⟨rfl, hy⟩; have hy1 := keepB hy (below_one y (Obj.cells #[.bool true, .int .i64 (h.alg : Int), .int .i64 (h.m : Int), .string h.key, .string h.ex, .int .i64 (h.round : Int)] 67)))
        | (go_at_call 43; refine (TU _).mono ?_; rintro e y2 ⟨rfl, hy2⟩)
        | (go_at_call 50; refine (WE _).mono ?_; rintro e y3 ⟨rfl, hy3⟩)
        | (go_at_call 47; refine (CK _).mono ?_; rintro e y4 ⟨rfl, hy4⟩))
      go_ret
      have BB := keepB (keepB (keepB hy1 hy2) hy3) hy4
      exact ⟨rfl, dslots_below BB hS, Fr.of BB⟩
/-- the document's -/
theorem Changer_any (b d n : Nat) (f : Nat → Option Held) (a : Int) (hok : ∀ h, getO n f a = Option.some h → h.Ok) (wr ck : ByteArray) (w : World) (hS : DSlots w b d n f) :
    Calls Tryz.prog 33 #[.pointer (some ⟨b, 0, Option.none⟩), .int .i64 a, .string wr, .string ck] w fun e w' => e = .returned (.int .i64 (chgE (getO n f a) wr ck)) ∧ DSlots w' b d n (chgF n f a wr ck) ∧ Fr d d w w' := by
  unfold chgF
  cases ho : getO n f a with
  | none =>
    rw [if_neg (by simp [chgE])]
    exact (Changer_none b d n f a ho wr ck w hS).mono fun e w' hh => ⟨hh.1, dslots_below hh.2 hS, Fr.of hh.2⟩
  | some h =>
    have ok := hok h ho
    obtain ⟨s, rfl, hs⟩ : ∃ s : Nat, a = (s : Int) ∧ s < n := by
      rcases in_or n a with h1 | h1
      · exact h1
      · rw [getO_out n f a h1] at ho; cases ho
    have hf : f s = Option.some h := by rw [← getO_in n s f hs]; exact ho
    by_cases hx : h.ex.size = 0
    · have e : chgE (Option.some h) wr ck = 40 := by simp [chgE, hx]
      rw [e, if_neg (by decide)]
      exact (Changer_nox b d n f _ h ho hx wr ck w hS).mono fun e w' hh => ⟨hh.1, dslots_below hh.2 hS, Fr.of hh.2⟩
    · have hx16 : h.ex.size = 16 := by rcases ok.ex with e | e; exact absurd e hx; exact e
      by_cases hw : wr.size = h.key.size
      · have e : chgE (Option.some h) wr ck = fitE (newKey h.ex wr) ck := by simp [chgE, hx, hw]
        rw [e, Int.toNat_natCast]
        exact Changer_fit b d n s f hs h hf ok hx16 wr ck hw w hS
      · have e : chgE (Option.some h) wr ck = 30 := by simp [chgE, hx, hw]
        rw [e, if_neg (by decide)]
        exact (Changer_len b d n f _ h ho hx16 wr ck hw w hS).mono fun e w' hh => ⟨hh.1, dslots_below hh.2 hS, Fr.of hh.2⟩
end Go.Proofs.YtpifebapodfeaaaGreat.Dh
/- Slots: Put, refused. -/
namespace Go.Proofs.YtpifebapodfeaaaGreat.Sw
set_option linter.unusedVariables false
open Go.RowKit Pla Cb Sm Wd Nw Bk Eb Et Cc Ch Pm Fp Sp Pe Se Tg Sd Sq Sr
open Go.MuLone in
set_option maxRecDepth 100000 in
set_option maxHeartbeats 1600000 in
theorem Put_slot (b d n : Nat) (f : Nat → Option Held) (a al mt : Int) (ha : a < 0 ∨ (n : Int) ≤ a) (key ex : ByteArray) (w : World) (hS : Slots w b d n f) :
    Calls Tryz.prog 13 #[.pointer (some ⟨b, 0, Option.none⟩), .int .i64 a, .int .i64 al, .int .i64 mt, .string key, .string ex] w fun e w' => e = .returned (.int .i64 40) ∧ Slots w' b d n f ∧ Fr b d w w' := by
  obtain ⟨hm, n1, n2, A, hr⟩ := hS
  have SH := fun y hy => shut (y := y) hm n1 n2 hr hy
  obtain ⟨m0, m2, mf⟩ := hm.cells
  obtain ⟨M1, R1⟩ := locked hm hr
  have LO := lock_free Lk.muLib ⟨b, 0, Option.none⟩ w m0 mf
  generalize w.setCell ⟨b, 0, Option.none⟩ (.int .i32 1) = W1 at *
  obtain ⟨k0, k2, kf⟩ := M1.cells
  have AT := fun y hy => at_out b d n a ha n2 y hy
  clear hm hr R1 ha
  go_enter_defers Tryz.func13, Tryz.ntmps13
  go_wp2_with (first
    | (go_at_call 20; refine LO.mono ?_; rintro e w' ⟨rfl, rfl⟩)
    | (go_at_call 22; refine (AT _ k2).mono ?_; rintro e w' ⟨rfl, rfl⟩))
  refine leaves_cons (f := 21) (args := #[.pointer (some ⟨b, 0, Option.none⟩)]) (by simp) (by simp [go_sem]) ?_
  refine (unlock_deferred Lk.muLib ⟨b, 0, Option.none⟩ .returning _ k0 kf).mono ?_
  rintro e u' w'' ⟨rfl, rfl, rfl⟩
  exact ⟨_, results_tmp rfl _ _ _, rfl, SH _ (Below.refl _ _)⟩
open Go.MuLone in
set_option maxRecDepth 100000 in
set_option maxHeartbeats 1600000 in
theorem Put_arg (b d n s : Nat) (f : Nat → Option Held) (hs : s < n) (al mt : Int) (h : ((ksz al == 0) || !(mt == 1 || mt == 2)) = true) (key ex : ByteArray) (w : World) (hS : Slots w b d n f) :
    Calls Tryz.prog 13 #[.pointer (some ⟨b, 0, Option.none⟩), .int .i64 (s : Int), .int .i64 al, .int .i64 mt, .string key, .string ex] w fun e w' => e = .returned (.int .i64 1) ∧ Slots w' b d n f ∧ Fr b d w w' := by
  obtain ⟨hm, n1, n2, A, hr⟩ := hS
  have SH := fun y hy => shut (y := y) hm n1 n2 hr hy
  obtain ⟨m0, m2, mf⟩ := hm.cells
  obtain ⟨M1, R1⟩ := locked hm hr
  have LO := lock_free Lk.muLib ⟨b, 0, Option.none⟩ w m0 mf
  generalize w.setCell ⟨b, 0, Option.none⟩ (.int .i32 1) = W1 at *
  obtain ⟨k0, k2, kf⟩ := M1.cells
  have AT := fun y hy => at_in b d n s hs n2 y hy
  have NE := fun y => new_arg al mt h key y
  clear hm hr R1 hs h
  go_enter_defers Tryz.func13, Tryz.ntmps13
  go_wp2_with (first
    | (go_at_call 20; refine LO.mono ?_; rintro e w' ⟨rfl, rfl⟩)
    | (go_at_call 22; refine (AT _ k2).mono ?_; rintro e w' ⟨rfl, rfl⟩)
    | (go_at_call 26; refine (NE _).mono ?_; rintro e w' ⟨rfl, rfl⟩))
  refine leaves_cons (f := 21) (args := #[.pointer (some ⟨b, 0, Option.none⟩)]) (by simp) (by simp [go_sem]) ?_
  refine (unlock_deferred Lk.muLib ⟨b, 0, Option.none⟩ .returning _ k0 kf).mono ?_
  rintro e u' w'' ⟨rfl, rfl, rfl⟩
  exact ⟨_, results_tmp rfl _ _ _, rfl, SH _ (Below.refl _ _)⟩
open Go.MuLone in
set_option maxRecDepth 100000 in
set_option maxHeartbeats 1600000 in
theorem Put_key (b d n s : Nat) (f : Nat → Option Held) (hs : s < n) (al mt : Int) (ha : (ksz al == 0) = false) (hb : (mt == 1 || mt == 2) = true) (key ex : ByteArray) (hk : ((key.size : Int) != ksz al) = true) (w : World) (hS : Slots w b d n f) :
    Calls Tryz.prog 13 #[.pointer (some ⟨b, 0, Option.none⟩), .int .i64 (s : Int), .int .i64 al, .int .i64 mt, .string key, .string ex] w fun e w' => e = .returned (.int .i64 30) ∧ Slots w' b d n f ∧ Fr b d w w' := by
  obtain ⟨hm, n1, n2, A, hr⟩ := hS
  have SH := fun y hy => shut (y := y) hm n1 n2 hr hy
  obtain ⟨m0, m2, mf⟩ := hm.cells
  obtain ⟨M1, R1⟩ := locked hm hr
  have LO := lock_free Lk.muLib ⟨b, 0, Option.none⟩ w m0 mf
  generalize w.setCell ⟨b, 0, Option.none⟩ (.int .i32 1) = W1 at *
  obtain ⟨k0, k2, kf⟩ := M1.cells
  have AT := fun y hy => at_in b d n s hs n2 y hy
  have NE := fun y => new_key al mt ha hb key hk y
  clear hm hr R1 hs ha hb hk
  go_enter_defers Tryz.func13, Tryz.ntmps13
  go_wp2_with (first
    | (go_at_call 20; refine LO.mono ?_; rintro e w' ⟨rfl, rfl⟩)
    | (go_at_call 22; refine (AT _ k2).mono ?_; rintro e w' ⟨rfl, rfl⟩)
    | (go_at_call 26; refine (NE _).mono ?_; rintro e w' ⟨rfl, rfl⟩))
  refine leaves_cons (f := 21) (args := #[.pointer (some ⟨b, 0, Option.none⟩)]) (by simp) (by simp [go_sem]) ?_
  refine (unlock_deferred Lk.muLib ⟨b, 0, Option.none⟩ .returning _ k0 kf).mono ?_
  rintro e u' w'' ⟨rfl, rfl, rfl⟩
  exact ⟨_, results_tmp rfl _ _ _, rfl, SH _ (Below.refl _ _)⟩
open Go.MuLone in
set_option maxRecDepth 100000 in
set_option maxHeartbeats 1600000 in
theorem Put_ex (b d n s : Nat) (f : Nat → Option Held) (hs : s < n) (alg m : Nat) (ha : alg = 1 ∨ alg = 3) (hm' : m = 1 ∨ m = 2) (key ex : ByteArray) (hk : key.size = 4 + 4 * alg) (hx0 : ex.size ≠ 0) (hx1 : ex.size ≠ 16) (w : World) (hS : Slots w b d n f) :
    Calls Tryz.prog 13 #[.pointer (some ⟨b, 0, Option.none⟩), .int .i64 (s : Int), .int .i64 (alg : Int), .int .i64 (m : Int), .string key, .string ex] w fun e w' => e = .returned (.int .i64 30) ∧ Slots w' b d n f ∧ Fr b d w w' := by
  obtain ⟨hm, n1, n2, A, hr⟩ := hS
  have SH := fun y hy => shut (y := y) hm n1 n2 hr hy
  obtain ⟨m0, m2, mf⟩ := hm.cells
  obtain ⟨M1, R1⟩ := locked hm hr
  have LO := lock_free Lk.muLib ⟨b, 0, Option.none⟩ w m0 mf
  generalize w.setCell ⟨b, 0, Option.none⟩ (.int .i32 1) = W1 at *
  obtain ⟨k0, k2, kf⟩ := M1.cells
  have AT := fun y hy => at_in b d n s hs n2 y hy
  have NE := fun y => new_any alg m ha hm' key hk y
  have EX := fun y => ex_bad y ex hx0 hx1
  clear hm hr R1 hs ha hm' hk hx0 hx1
  go_enter_defers Tryz.func13, Tryz.ntmps13
  go_wp2_with (first
    | (go_at_call 20; refine LO.mono ?_; rintro e w' ⟨rfl, rfl⟩)
    | (go_at_call 22; refine (AT _ k2).mono ?_; rintro e w' ⟨rfl, rfl⟩)
    | (go_at_call 26; refine (NE _).mono ?_; rintro e y ⟨g, rfl, hg, sg, hy⟩)
    | (go_at_call 27; refine (EX _).mono ?_; rintro e y2 ⟨rfl, rfl⟩))
  obtain ⟨l0, l2, lf⟩ := Mu.cells (Cb.kept hy M1)
  refine leaves_cons (f := 21) (args := #[.pointer (some ⟨b, 0, Option.none⟩)]) (by simp) (by simp [go_sem]) ?_
  refine (unlock_deferred Lk.muLib ⟨b, 0, Option.none⟩ .returning _ l0 lf).mono ?_
  rintro e u' w'' ⟨rfl, rfl, rfl⟩
  exact ⟨_, results_tmp rfl _ _ _, rfl, SH _ hy⟩
end Go.Proofs.YtpifebapodfeaaaGreat.Sw
/- Put of both as one function; frames. -/
namespace Go.Proofs.YtpifebapodfeaaaGreat.Di
set_option linter.unusedVariables false
open Go.RowKit Pla Cb Sm Wd Nw Bk Eb Et Cc Ch Pm Fp Sp Pe Se Tg Sd Sq Sr Dd De Rg Df Wk Sx Sy Dg Dh Sw
def putE (n : Nat) (a al mt : Int) (key ex : ByteArray) : Int :=
  if a < 0 ∨ (n : Int) ≤ a then 40 else if ksz al = 0 ∨ mt < 1 ∨ 2 < mt then 1 else if (key.size : Int) ≠ ksz al ∨ (ex.size ≠ 0 ∧ ex.size ≠ 16) then 30 else 0
def putF (n : Nat) (f : Nat → Option Held) (a al mt : Int) (key ex : ByteArray) : Nat → Option Held :=
  if putE n a al mt key ex = 0 then upd f a.toNat (Option.some ⟨al.toNat, mt.toNat, key, ex, 0⟩) else f
theorem ksz_ne (al : Int) (h : ksz al ≠ 0) : ∃ alg : Nat, (alg = 1 ∨ alg = 3) ∧ al = (alg : Int) ∧ ksz al = ((4 + 4 * alg : Nat) : Int) := by
  unfold ksz at h ⊢
  by_cases h1 : al = 1
  · exact ⟨1, .inl rfl, h1, by rw [if_pos h1]; rfl⟩
  · by_cases h3 : al = 3
    · exact ⟨3, .inr rfl, h3, by rw [if_neg h1, if_pos h3]; rfl⟩
    · rw [if_neg h1, if_neg h3] at h; exact absurd rfl h
/-- the ways of Put -/
theorem put_ways (n : Nat) (a al mt : Int) (key ex : ByteArray) :
    ((a < 0 ∨ (n : Int) ≤ a) ∧ putE n a al mt key ex = 40) ∨
    (∃ s : Nat, a = (s : Int) ∧ s < n ∧ (ksz al = 0 ∨ mt < 1 ∨ 2 < mt) ∧ putE n a al mt key ex = 1) ∨
    (∃ s : Nat, a = (s : Int) ∧ s < n ∧ ksz al ≠ 0 ∧ ¬ mt < 1 ∧ ¬ mt > 2 ∧ ((key.size : Int) ≠ ksz al ∨ (ex.size ≠ 0 ∧ ex.size ≠ 16)) ∧ putE n a al mt key ex = 30) ∨
    (∃ s alg m : Nat, a = (s : Int) ∧ s < n ∧ al = (alg : Int) ∧ mt = (m : Int) ∧ (alg = 1 ∨ alg = 3) ∧ (m = 1 ∨ m = 2) ∧ key.size = 4 + 4 * alg ∧ (ex.size = 0 ∨ ex.size = 16) ∧ putE n a al mt key ex = 0) := by
  rcases in_or n a with ⟨s, rfl, hs⟩ | h
  · have h0 : ¬ ((s : Int) < 0 ∨ (n : Int) ≤ (s : Int)) := by omega
    by_cases h1 : ksz al = 0 ∨ mt < 1 ∨ 2 < mt
    · exact .inr (.inl ⟨s, rfl, hs, h1, by rw [putE, if_neg h0, if_pos h1]⟩)
    · by_cases h2 : (key.size : Int) ≠ ksz al ∨ (ex.size ≠ 0 ∧ ex.size ≠ 16)
      · exact .inr (.inr (.inl ⟨s, rfl, hs, fun e => h1 (.inl e), fun e => h1 (.inr (.inl e)), fun e => h1 (.inr (.inr e)), h2, by rw [putE, if_neg h0, if_neg h1, if_pos h2]⟩))
      · obtain ⟨alg, ha, hal, hk⟩ := ksz_ne al (fun e => h1 (.inl e))
        have hkey : (key.size : Int) = ksz al := Classical.byContradiction fun e => h2 (.inl e)
        have hex : ex.size = 0 ∨ ex.size = 16 := by
          by_cases e0 : ex.size = 0
          · exact .inl e0
          · exact .inr (Classical.byContradiction fun e => h2 (.inr ⟨e0, e⟩))
        refine .inr (.inr (.inr ⟨s, alg, mt.toNat, rfl, hs, hal, by omega, ha, by omega, by omega, hex, by rw [putE, if_neg h0, if_neg h1, if_neg h2]⟩))
  · exact .inl ⟨h, by rw [putE, if_pos h]⟩
theorem Put_any (b d n : Nat) (f : Nat → Option Held) (a al mt : Int) (key ex : ByteArray) (w : World) (hS : Slots w b d n f) :
    Calls Tryz.prog 13 #[.pointer (some ⟨b, 0, Option.none⟩), .int .i64 a, .int .i64 al, .int .i64 mt, .string key, .string ex] w fun e w' => e = .returned (.int .i64 (putE n a al mt key ex)) ∧ Slots w' b d n (putF n f a al mt key ex) ∧ Fr b d w w' := by
  unfold putF
  rcases put_ways n a al mt key ex with ⟨h, e⟩ | ⟨s, rfl, hs, h, e⟩ | ⟨s, rfl, hs, h1, h2, h3, h, e⟩ | ⟨s, alg, m, rfl, hs, rfl, rfl, ha, hm, hk, hx, e⟩
  · rw [e, if_neg (by decide)]
    exact Put_slot b d n f a al mt h key ex w hS
  · rw [e, if_neg (by decide)]
    refine Put_arg b d n s f hs al mt ?_ key ex w hS
    rcases h with h | h
    · rw [h]; rfl
    · have e1 : (mt == 1) = false := by simp only [beq_eq_false_iff_ne]; omega
      have e2 : (mt == 2) = false := by simp only [beq_eq_false_iff_ne]; omega
      rw [e1, e2]; simp
  · rw [e, if_neg (by decide)]
    have hmt : (mt == 1 || mt == 2) = true := by
      have : mt = 1 ∨ mt = 2 := by omega
      rcases this with rfl | rfl <;> rfl
    by_cases hk : (key.size : Int) = ksz al
    · have hx : ex.size ≠ 0 ∧ ex.size ≠ 16 := by
        rcases h with h | h
        · exact absurd hk h
        · exact h
      obtain ⟨alg, ha, hal, hks⟩ := ksz_ne al h1
      obtain ⟨m, hm, hmm⟩ : ∃ m : Nat, (m = 1 ∨ m = 2) ∧ mt = (m : Int) := ⟨mt.toNat, by omega, by omega⟩
      rw [hal, hmm]
      exact Put_ex b d n s f hs alg m ha hm key ex (by omega) hx.1 hx.2 w hS
    · exact Put_key b d n s f hs al mt (by simpa using h1) hmt key ex (by simpa using hk) w hS
  · rw [e, if_pos rfl, Int.toNat_natCast, Int.toNat_natCast, Int.toNat_natCast]
    exact Put_good b d n s f hs alg m ha hm key ex hk hx w hS
theorem Putr_any (b d n : Nat) (f : Nat → Option Held) (a al mt : Int) (key ex : ByteArray) (w : World) (hS : DSlots w b d n f) :
    Calls Tryz.prog 14 #[.pointer (some ⟨b, 0, Option.none⟩), .int .i64 a, .int .i64 al, .int .i64 mt, .string key, .string ex] w fun e w' => e = .returned (.int .i64 (putE n a al mt key ex)) ∧ DSlots w' b d n (putF n f a al mt key ex) ∧ Fr d d w w' := by
  unfold putF
  rcases put_ways n a al mt key ex with ⟨h, e⟩ | ⟨s, rfl, hs, h, e⟩ | ⟨s, rfl, hs, h1, h2, h3, h, e⟩ | ⟨s, alg, m, rfl, hs, rfl, rfl, ha, hm, hk, hx, e⟩
  · rw [e, if_neg (by decide)]
    exact (Putr_slot b d n f a al mt h key ex w hS).mono fun e w' hh => ⟨hh.1, hh.2 ▸ hS, hh.2 ▸ Fr.refl _ _ _⟩
  · rw [e, if_neg (by decide)]
    exact (Putr_arg b d n s f hs al mt h key ex w hS).mono fun e w' hh => ⟨hh.1, hh.2 ▸ hS, hh.2 ▸ Fr.refl _ _ _⟩
  · rw [e, if_neg (by decide)]
    exact (Putr_key b d n s f hs al mt h1 h2 h3 key ex h w hS).mono fun e w' hh => ⟨hh.1, hh.2 ▸ hS, hh.2 ▸ Fr.refl _ _ _⟩
  · rw [e, if_pos rfl, Int.toNat_natCast, Int.toNat_natCast, Int.toNat_natCast]
    exact Putr_good b d n s f hs alg m ha hm key ex hk hx w hS
theorem slots_ok {w : World} {b d n : Nat} {f : Nat → Option Held} (hS : Slots w b d n f) (a : Int) (h : Held) (e : getO n f a = Option.some h) : h.Ok := by
  rcases in_or n a with ⟨s, rfl, hs⟩ | ho
  · rw [getO_in n s f hs] at e
    obtain ⟨_, _, _, A, hr⟩ := hS
    obtain ⟨p, x, r, _, _, _, hh⟩ := hr.2.2 s hs
    rw [e] at hh
    exact hh.1
  · rw [getO_out n f a ho] at e; cases e
theorem Tag_any (b d n : Nat) (f : Nat → Option Held) (a : Int) (text : ByteArray) (ht : text.size ≤ 1100000) (w : World) (hS : Slots w b d n f) :
    Calls Tryz.prog 8 #[.pointer (some ⟨b, 0, Option.none⟩), .int .i64 a, .string text] w fun e w' => e = .returned (.tuple #[.string (tagO (getO n f a) text), .int .i64 (tagE (getO n f a))]) ∧ Slots w' b d n f ∧ Fr b d w w' := by
  rcases in_or n a with ⟨s, rfl, hs⟩ | ho
  · rw [getO_in n s f hs]
    cases hf : f s with
    | none => exact Tag_no b d n f _ (.inr (.inr ⟨s, rfl, hs, hf⟩)) text w hS
    | some h => exact Tag_in b d n s f h hs hf text (by omega) w hS
  · rw [getO_out n f a ho]
    exact Tag_no b d n f a (by rcases ho with h | h; exact .inl h; exact .inr (.inl h)) text w hS
theorem Right_any (b d n : Nat) (f : Nat → Option Held) (a : Int) (text tag : ByteArray) (ht : text.size ≤ 1100000) (w : World) (hS : Slots w b d n f) :
    Calls Tryz.prog 17 #[.pointer (some ⟨b, 0, Option.none⟩), .int .i64 a, .string text, .string tag] w fun e w' => e = .returned (.tuple #[.bool (rightO (getO n f a) text tag), .int .i64 (tagE (getO n f a))]) ∧ Slots w' b d n f ∧ Fr b d w w' := by
  rcases in_or n a with ⟨s, rfl, hs⟩ | ho
  · rw [getO_in n s f hs]
    cases hf : f s with
    | none => exact Right_no b d n f _ (.inr (.inr ⟨s, rfl, hs, hf⟩)) text tag w hS
    | some h => exact Right_in b d n s f h hs hf text tag (by omega) w hS
  · rw [getO_out n f a ho]
    exact Right_no b d n f a (by rcases ho with h | h; exact .inl h; exact .inr (.inl h)) text tag w hS
theorem Round_any (b d n : Nat) (f : Nat → Option Held) (a : Int) (w : World) (hS : Slots w b d n f) :
    Calls Tryz.prog 10 #[.pointer (some ⟨b, 0, Option.none⟩), .int .i64 a] w fun e w' => e = .returned (.int .i64 (roundOf (getO n f a) : Int)) ∧ Slots w' b d n f ∧ Fr b d w w' := by
  rcases in_or n a with ⟨s, rfl, hs⟩ | ho
  · rw [getO_in n s f hs]; exact Round_in b d n s f hs w hS
  · rw [getO_out n f a ho]; exact Round_out b d n f a ho w hS
end Go.Proofs.YtpifebapodfeaaaGreat.Di
/- pick: a number below n, off any number. -/
namespace Go.Proofs.YtpifebapodfeaaaGreat.Pick
open Go.RowKit
def pickOf (c n : Int) : Int := (if c < 0 then -(c + 1) else c) % n
theorem ret_int {k : IntKind} {a b : Int} (h : a = b) : Ending.returned (.int k a) = .returned (.int k b) := by rw [h]
theorem pick_lo (c n : Int) (h : 0 < n) : 0 ≤ pickOf c n := Int.emod_nonneg _ (by omega)
theorem pick_hi (c n : Int) (h : 0 < n) : pickOf c n < n := Int.emod_lt_of_pos _ h
theorem pick_any (c n : Int) (w : World) (h0 : -9223372036854775808 ≤ c) (h1 : c ≤ 9223372036854775807) (h2 : 0 < n) (h3 : n ≤ 9223372036854775807) :
    Calls Tryz.prog 6 #[.int .i64 c, .int .i64 n] w fun e w' => e = .returned (.int .i64 (pickOf c n)) ∧ w' = w := by
  have hz : (n == 0) = false := by simp; omega
  have ho : (n == -1) = false := by simp; omega
  by_cases g : c < 0
  · go_enter Tryz.func6, Tryz.ntmps6
    go_wp2
    go_ret
    exact ⟨ret_int (by rw [pickOf, if_pos g, ← Int.tmod_eq_emod_of_nonneg (by omega), Int.neg_tmod]), rfl⟩
  · go_enter Tryz.func6, Tryz.ntmps6
    go_wp2
    go_ret
    exact ⟨ret_int (by rw [pickOf, if_neg (by omega)]), rfl⟩
end Go.Proofs.YtpifebapodfeaaaGreat.Pick
