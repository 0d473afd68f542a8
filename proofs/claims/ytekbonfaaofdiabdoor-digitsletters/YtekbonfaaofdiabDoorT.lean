/- DigitsLetters: the law out of the contracts; the frame of the row. -/
import Derived.Test.YtekbonfaaofdiabDoorCards
import Derived.Test.YtekbonfaaofdiabDoorTie
import Derived.WalkKit
import Derived.ProofKit
import Derived.OpenShut
import Derived.ShutString
import Derived.ChangeOld
import Derived.Below
import Derived.JoinedCond
import Derived.Deep.DeepHandedRow
import Derived.Lib.LaidTab
import Derived.Stop.LaidErr
import Derived.Test.YtekbonfaaofdiabDoorLet
namespace Go.Proofs.YtekbonfaaofdiabDoor.digitsLetters
open Go.ChangeShapes Go.WideShapes Go.ChangeAt Go.RowKit
open Go.ChangeMaps (open_string shut_string)
set_option linter.unusedVariables false

theorem own : ownKnob Tryd.prog.godebug = none := by kernel_rfl

theorem gTab : Tryd.prog.globalNamed "turnstile/digits.ebcdic" = some 0 := by kernel_rfl
theorem gTabType : (Tryd.prog.globals[0]?).map (·.type) = some 55 := by kernel_rfl
theorem cellsT : Tryd.prog.cellsOf 55 = 95 := by kernel_rfl
theorem cellsE : Tryd.prog.cellsOf 5 = 1 := by kernel_rfl
theorem table {W : World} (h : laidMetH Tryd.prog Rows.digitsLettersRow.laid W) : Ebc.Tab W :=
  Ebc.Tab.of_var gTab (Lib.tabIs_of_head (rest := []) gTab gTabType Tryd.underlying55 Tryd.underlying5 cellsE cellsT h)
open Lib0 Chars Ebc Frm Spl Pck Rdd Unp Let
theorem get0 (b : UInt8) (h : 0 < (ByteArray.mk [b].toArray).size) : (ByteArray.mk [b].toArray)[0]'h = b := rfl
theorem get0' (b : UInt8) (h : 0 < (ByteArray.mk #[b]).size) : (ByteArray.mk #[b])[0]'h = b := rfl
theorem size1 (b : UInt8) : (ByteArray.mk #[b]).size = 1 := rfl
set_option maxRecDepth 100000 in
set_option maxHeartbeats 1600000 in
theorem walk (a0 : Int) (w0 : (Lit.int .i64 a0).wf = true) (w : World) (hL : laidMetH Tryd.prog Rows.digitsLettersRow.laid w) :
    Calls Tryd.prog 5 #[.int .i64 a0] w fun e w' => e = .returned (.bool true) ∧ Below w.heap.size w w' := by
  have HT : Hid (Tab w) := table hL
  have b0 := bounds_i64 w0
  have hlo := Pick.pick_lo a0 256 (by omega)
  have hhi := Pick.pick_hi a0 256 (by omega)
  clear hL
  have hg2 : (w.alloc (Obj.cells Tryd.zeroCells33 33)).heap[w.heap.size]? = some (.cells (bv (seenL 0)).toArray 33 (0, 0)) := by rw [← zB]; exact heap_alloc_new w _
  have HG2 : Hid _ := hg2
  clear hg2
  go_enter Tryd.func5, Tryd.ntmps5
  go_wp2
  go_loopw [4, 5] (fun l i wr => ∃ (k : Nat) (z : UInt8), k ≤ 95 ∧ i = .int .i64 ((32 + k : Nat) : Int) ∧ l = .int .u8 (z.toNat : Int) ∧ Hid (k < 95 → rowB (32 + k) = true → z.toNat < (ebc (32 + k).toUInt8).toNat) ∧ wr.heap[w.heap.size]? = some (.cells (bv (seenL k)).toArray 33 (0, 0)) ∧ Below w.heap.size w wr) (fun _ i _ => 127 - (intOf i).toNat)
  case atStart => exact ⟨0, 0, Nat.zero_le _, rfl, rfl, (by show _ → _; intro _ h; cases h), HG2.out, (Below.refl _ _).alloc (Nat.le_refl _) _⟩
  case round =>
    obtain ⟨k, z, hk, rfl, rfl, HZ, hrow, hb⟩ := hrel
    have HR : Hid (wr.heap[w.heap.size]? = some (.cells (bv (seenL k)).toArray 33 (0, 0))) := hrow
    clear hrow
    have hgl : w.heap.size < wr.heap.size := World.block_lt_of_cell? wr ⟨w.heap.size, 0, none⟩ (seen_cell HR.out 0 (by omega))
    by_cases hlt : k < 95
    · obtain ⟨hs1, hs2⟩ := sign_all ⟨k, hlt⟩
      have hun := unseen_all ⟨k, hlt⟩
      simp only at hs1 hs2 hun
      have hri : Hid (k + 1 < 95 → rowB (32 + (k + 1)) = true → (ebc (32 + k).toUInt8).toNat < (ebc (32 + (k + 1)).toUInt8).toNat) := by
        show _ → _ → _
        intro h1 h2
        have := rise_all ⟨k + 1, h1⟩ h2
        simp only [show 31 + (k + 1) = 32 + k by omega] at this
        exact this
      have hz0 := HZ.out hlt
      obtain ⟨c, hc⟩ : ∃ c, (32 + k).toUInt8 = c := ⟨_, rfl⟩
      have HRI : Hid (k + 1 < 95 → rowB (32 + (k + 1)) = true → (ebc c).toNat < (ebc (32 + (k + 1)).toUInt8).toNat) := by rw [← hc]; exact hri
      rw [hc] at hs1 hs2 hun hz0
      have Hc : Hid (c = (32 + k).toUInt8) := hc.symm
      have HS : Hid (sgn c = true) := hs1
      have HUN : Hid ((seenL k).getD (ebc c).toNat false = false) := hun
      have HC2 : Hid (c.toNat = 32 + k) := hs2
      obtain ⟨d, hd, hd1, hd0⟩ : ∃ d, Hid (ByteArray.mk [ebc c].toArray = d) ∧ d.size = 1 ∧ ∀ h : 0 < d.size, d[0] = ebc c := ⟨_, rfl, rfl, fun _ => rfl⟩
      have hp0 : 0 < d.size := by omega
      have HD0 : Hid (d[0] = ebc c) := hd0 hp0
      have hz1 : Hid (rowB (32 + k) = true → z.toNat < d[0].toNat) := by rw [HD0.out]; exact hz0
      have hcv := Lib1.run_one_int wr (32 + (k : Int)) c (by rw [HC2.out]; omega)
      clear hc hs1 hun hri hs2 hz0 HZ hd0
      have hk2 : (k : Int) < 95 := by omega
      go_wp2_with fail
      refine (pack_any 4 (ByteArray.mk #[c]) _ (by rw [size1]; omega) ((HT.out.next hb).next ((Below.refl _ _).alloc (Nat.le_refl _) _))).mono ?_
      rintro e w2 ⟨rfl, hb2⟩
      rw [show (ByteArray.mk #[c]).data.toList = [c] from rfl, pack4_one c HS.out, hd.out]
      have hblk : w2.heap[w.heap.size]? = some (.cells (bv (seenL k)).toArray 33 (0, 0)) := by
        rw [hb2.block _ (by simp; omega)]
        exact (Below.heap_alloc wr _ _ hgl).trans HR.out
      have hcell : w2.cell? ⟨w.heap.size, d[0].toNat, none⟩ = some (.bool false) := by rw [HD0.out, seen_cell hblk _ (ebc c).toNat_lt, HUN.out]
      have hfr : w2.frozen? ⟨w.heap.size, d[0].toNat, none⟩ = false := frozen_of_row w2 _ _ _ _ hblk
      have hnx : Hid ((w2.setCell ⟨w.heap.size, d[0].toNat, none⟩ (.bool true)).heap[w.heap.size]? = some (.cells (bv (seenL (k + 1))).toArray 33 (0, 0))) := by rw [HD0.out]; exact seen_next c Hc.out hblk
      have hb3 : Below w.heap.size w w2 := (hb.alloc hb.size _).trans (hb2.mono (by simp; omega))
      clear hblk hcv
      have e1 : (d[0].toNat : Int) < 256 := toNat_lt _
      rcases (show k ≤ 16 ∨ (16 < k ∧ k ≤ 25) ∨ (25 < k ∧ k ≤ 33) ∨ (33 < k ∧ k ≤ 58) ∨ (58 < k ∧ k ≤ 65) ∨ (65 < k ∧ k ≤ 90) ∨ 90 < k by omega) with hr | hr | hr | hr | hr | hr | hr
      · go_wp2
        go_roundw
        case rel => exact ⟨k + 1, d[0], by omega, by go_num, rfl, (by rw [HD0.out]; exact HRI), hnx.out, hb3.setCell (Nat.le_refl _) _⟩
        case measure => simp [intOf]; omega
      · have hz2 : ¬ (d[0].toNat : Int) ≤ (z.toNat : Int) := by have := hz1.out (by simp [rowB]; omega); omega
        go_wp2
        go_roundw
        case rel => exact ⟨k + 1, d[0], by omega, by go_num, rfl, (by rw [HD0.out]; exact HRI), hnx.out, hb3.setCell (Nat.le_refl _) _⟩
        case measure => simp [intOf]; omega
      · go_wp2
        go_roundw
        case rel => exact ⟨k + 1, d[0], by omega, by go_num, rfl, (by rw [HD0.out]; exact HRI), hnx.out, hb3.setCell (Nat.le_refl _) _⟩
        case measure => simp [intOf]; omega
      · have hz2 : ¬ (d[0].toNat : Int) ≤ (z.toNat : Int) := by have := hz1.out (by simp [rowB]; omega); omega
        go_wp2
        go_roundw
        case rel => exact ⟨k + 1, d[0], by omega, by go_num, rfl, (by rw [HD0.out]; exact HRI), hnx.out, hb3.setCell (Nat.le_refl _) _⟩
        case measure => simp [intOf]; omega
      · go_wp2
        go_roundw
        case rel => exact ⟨k + 1, d[0], by omega, by go_num, rfl, (by rw [HD0.out]; exact HRI), hnx.out, hb3.setCell (Nat.le_refl _) _⟩
        case measure => simp [intOf]; omega
      · have hz2 : ¬ (d[0].toNat : Int) ≤ (z.toNat : Int) := by have := hz1.out (by simp [rowB]; omega); omega
        go_wp2
        go_roundw
        case rel => exact ⟨k + 1, d[0], by omega, by go_num, rfl, (by rw [HD0.out]; exact HRI), hnx.out, hb3.setCell (Nat.le_refl _) _⟩
        case measure => simp [intOf]; omega
      · go_wp2
        go_roundw
        case rel => exact ⟨k + 1, d[0], by omega, by go_num, rfl, (by rw [HD0.out]; exact HRI), hnx.out, hb3.setCell (Nat.le_refl _) _⟩
        case measure => simp [intOf]; omega
    · have hk95 : k = 95 := by omega
      subst hk95
      clear hlt hk HZ
      go_wp2_with fail
      refine (Pick.pick_any a0 256 _ b0.1 b0.2 (by omega) (by omega)).mono ?_
      rintro e x1 ⟨rfl, hx1⟩
      rw [hx1]
      clear hx1 x1
      obtain ⟨q, hq, hq256⟩ : ∃ q : Nat, Hid (Pick.pickOf a0 256 = (q : Int)) ∧ q < 256 := ⟨(Pick.pickOf a0 256).toNat, (by show _ = _; omega), by omega⟩
      rw [hq.out]
      clear hlo hhi
      obtain ⟨b, Hb, hbq⟩ : ∃ b : UInt8, Hid (UInt8.ofNat q = b) ∧ (q : Int) = (b.toNat : Int) := ⟨UInt8.ofNat q, rfl, by simp; omega⟩
      have hsi := seen_iff ⟨q, hq256⟩
      have hba := back_all ⟨q, hq256⟩
      simp only at hsi hba
      rw [Hb.out] at hsi hba
      have HSI : Hid _ := hsi
      have HBA : Hid _ := hba
      clear hsi hba
      have HBQ : Hid _ := hbq
      clear hbq
      have hcv := Lib1.run_one_int wr (q : Int) b HBQ.out
      go_wp2_with fail
      refine (unpack_any 4 (ByteArray.mk #[b]) 1 _ (by rw [size1]; omega) (by omega) ((HT.out.next hb).next ((Below.refl _ _).alloc (Nat.le_refl _) _))).mono ?_
      rintro e w2 ⟨rfl, hb2⟩
      rw [show (ByteArray.mk #[b]).data.toList = [b] from rfl, unpack4_one b]
      have hblk : w2.heap[w.heap.size]? = some (.cells (bv (seenL 95)).toArray 33 (0, 0)) := by
        rw [hb2.block _ (by simp; omega)]
        exact (Below.heap_alloc wr _ _ hgl).trans HR.out
      have hb3 : Below w.heap.size w w2 := (hb.alloc hb.size _).trans (hb2.mono (by simp; omega))
      have hcell : w2.cell? ⟨w.heap.size, q, none⟩ = some (.bool (sgn (dec b))) := by rw [seen_cell hblk q hq256, HSI.out]
      have hb3s := hb3.size
      clear hblk hcv hb2
      cases hs : sgn (dec b)
      · rw [hs] at hcell
        clear hs
        unfold val3
        go_wp2
        go_ret
        exact ⟨by simp, hb3⟩
      · rw [hs] at hcell
        have HS : Hid (sgn (dec b) = true) := hs
        obtain ⟨d, hd, hd1, hdl⟩ : ∃ d, Hid (ByteArray.mk [dec b].toArray = d) ∧ d.size = 1 ∧ Hid (d.data.toList = [dec b]) := ⟨_, rfl, rfl, rfl⟩
        clear hs
        rw [if_pos rfl]
        unfold val3
        rw [hd.out]
        go_wp2_with fail
        refine (pack_any 4 d _ (by omega) (HT.out.next hb3)).mono ?_
        rintro e w3 ⟨rfl, hb4⟩
        rw [hdl.out, pack4_one (dec b) HS.out, HBA.out HS.out]
        have hcv2 := Lib1.run_one_int w3 (q : Int) b HBQ.out
        have hb5 : Below w.heap.size w w3 := hb3.trans (hb4.mono hb3s)
        go_wp2
        go_ret
        exact ⟨by simp, hb5.alloc hb5.size _⟩


theorem contract (H : Type) (enc : TypeId × Value → H) (W : World) (base : Nat) (args : Array Value) (ds gs : List (DataW H)) (before : List MemPlace)
    (hval : ∀ (j : Nat) t v, Tryd.f5.params[j]? = some t → args[j]? = some v → Value.okWide Tryd.prog W .any base t v)
    (hW : DataW.Whole enc Tryd.prog Tryd.f5.params.toList Rows.digitsLettersSpec.vars false W args.toList ds gs before) (hL : laidMetH Tryd.prog Rows.digitsLettersRow.laid W) :
    Calls Tryd.prog 5 args W fun e W' => ∃ v, e = .returned v ∧ Rows.digitsLettersSpec.post enc Tryd.prog Tryd.f5 false true false false W args v W' := by
  have hW' := hW
  obtain ⟨p, q, hA0, hV, rfl, hfz, hnd⟩ := hW
  have hA : DataW.TrodAll enc Tryd.prog W 0 (fun _ => true) true Tryd.f5.params.toList args.toList ds p := hA0
  rw [Tryd.params5] at hA hval
  obtain ⟨v0, vs0, d0, ds0, p0, q0, hargs, rfl, rfl, h0, r0⟩ := trodAll_cons hA
  obtain ⟨rfl, rfl, rfl⟩ := trodAll_nil r0
  obtain rfl : args = #[v0] := by cases args; simp_all
  obtain ⟨rfl, rfl⟩ := trodVars_none hV
  obtain ⟨a0, rfl, rfl, rfl, w0⟩ := open_int Tryd.underlying3 (hval 0 3 v0 rfl rfl) h0
  clear hA0
  refine (walk a0 w0 W hL).mono fun e W' ⟨he, bel⟩ => ?_
  subst he
  exact ⟨_, rfl, _, _, _, [], _, [], hW', trodAll_mk1 (shut_bool Tryd.underlying4 _), (trodAll_cons_mk (shut_int Tryd.underlying3 w0) trodAll_mk0), rfl, bel.frame _, fun h => by cases h⟩

theorem laid_met (os : Os) : laidMet Tryd.prog Rows.digitsLettersRow.laid (({ World.holding Tryd.prog os ⟨#[], #[], []⟩ with heap := ((World.holding Tryd.prog os ⟨#[], #[], []⟩).heap.modify 0 fun | .cells _ t frozen => .cells #[.int .u8 64, .int .u8 90, .int .u8 127, .int .u8 123, .int .u8 91, .int .u8 108, .int .u8 80, .int .u8 125, .int .u8 77, .int .u8 93, .int .u8 92, .int .u8 78, .int .u8 107, .int .u8 96, .int .u8 75, .int .u8 97, .int .u8 240, .int .u8 241, .int .u8 242, .int .u8 243, .int .u8 244, .int .u8 245, .int .u8 246, .int .u8 247, .int .u8 248, .int .u8 249, .int .u8 122, .int .u8 94, .int .u8 76, .int .u8 126, .int .u8 110, .int .u8 111, .int .u8 124, .int .u8 193, .int .u8 194, .int .u8 195, .int .u8 196, .int .u8 197, .int .u8 198, .int .u8 199, .int .u8 200, .int .u8 201, .int .u8 209, .int .u8 210, .int .u8 211, .int .u8 212, .int .u8 213, .int .u8 214, .int .u8 215, .int .u8 216, .int .u8 217, .int .u8 226, .int .u8 227, .int .u8 228, .int .u8 229, .int .u8 230, .int .u8 231, .int .u8 232, .int .u8 233, .int .u8 186, .int .u8 224, .int .u8 187, .int .u8 176, .int .u8 109, .int .u8 121, .int .u8 129, .int .u8 130, .int .u8 131, .int .u8 132, .int .u8 133, .int .u8 134, .int .u8 135, .int .u8 136, .int .u8 137, .int .u8 145, .int .u8 146, .int .u8 147, .int .u8 148, .int .u8 149, .int .u8 150, .int .u8 151, .int .u8 152, .int .u8 153, .int .u8 162, .int .u8 163, .int .u8 164, .int .u8 165, .int .u8 166, .int .u8 167, .int .u8 168, .int .u8 169, .int .u8 192, .int .u8 79, .int .u8 208, .int .u8 161] t frozen | o => o) } : World).forCall (fun _ _ => 0) ⟨#[], #[.int .i64 0], []⟩).memory :=
  laidMet_of_run' 8 (by kernel_rfl) (by kernel_rfl)
theorem reads (os : Os) {H : Type} (enc : TypeId × Value → H) : ∃ places, DataW.whole enc Tryd.prog (({ World.holding Tryd.prog os ⟨#[], #[], []⟩ with heap := ((World.holding Tryd.prog os ⟨#[], #[], []⟩).heap.modify 0 fun | .cells _ t frozen => .cells #[.int .u8 64, .int .u8 90, .int .u8 127, .int .u8 123, .int .u8 91, .int .u8 108, .int .u8 80, .int .u8 125, .int .u8 77, .int .u8 93, .int .u8 92, .int .u8 78, .int .u8 107, .int .u8 96, .int .u8 75, .int .u8 97, .int .u8 240, .int .u8 241, .int .u8 242, .int .u8 243, .int .u8 244, .int .u8 245, .int .u8 246, .int .u8 247, .int .u8 248, .int .u8 249, .int .u8 122, .int .u8 94, .int .u8 76, .int .u8 126, .int .u8 110, .int .u8 111, .int .u8 124, .int .u8 193, .int .u8 194, .int .u8 195, .int .u8 196, .int .u8 197, .int .u8 198, .int .u8 199, .int .u8 200, .int .u8 201, .int .u8 209, .int .u8 210, .int .u8 211, .int .u8 212, .int .u8 213, .int .u8 214, .int .u8 215, .int .u8 216, .int .u8 217, .int .u8 226, .int .u8 227, .int .u8 228, .int .u8 229, .int .u8 230, .int .u8 231, .int .u8 232, .int .u8 233, .int .u8 186, .int .u8 224, .int .u8 187, .int .u8 176, .int .u8 109, .int .u8 121, .int .u8 129, .int .u8 130, .int .u8 131, .int .u8 132, .int .u8 133, .int .u8 134, .int .u8 135, .int .u8 136, .int .u8 137, .int .u8 145, .int .u8 146, .int .u8 147, .int .u8 148, .int .u8 149, .int .u8 150, .int .u8 151, .int .u8 152, .int .u8 153, .int .u8 162, .int .u8 163, .int .u8 164, .int .u8 165, .int .u8 166, .int .u8 167, .int .u8 168, .int .u8 169, .int .u8 192, .int .u8 79, .int .u8 208, .int .u8 161] t frozen | o => o) } : World).forCall (fun _ _ => 0) ⟨#[], #[.int .i64 0], []⟩).memory Tryd.f5.params.toList Rows.digitsLettersSpec.vars false (#[.int .i64 0] : Array Value).toList 8 = some ([.lit (.int .i64 0)], [], places) :=
  ⟨[], by kernel_rfl⟩
set_option maxRecDepth 100000 in
theorem lifted (os : Os) (started : os.Started) (H : Type) (enc : TypeId × Value → H) (F : Stop.Interp) :
    ReturnsInHanded {} Tryd.checked os 5 .any ((OpenSpec.ofChange Rows.digitsLettersSpec).preRow enc Tryd.prog Tryd.f5 Rows.digitsLettersRow.domain false Rows.digitsLettersRow.laid) (((OpenSpec.ofChange Rows.digitsLettersSpec).at F).post enc Tryd.prog Tryd.f5 false true false false) := by
  obtain ⟨places, hx⟩ := reads os enc
  refine returnsInHanded_of_row (C := Tryd.checked) (s := OpenSpec.ofChange Rows.digitsLettersSpec) own started (by kernel_rfl) Tryd.func5
    (witness_row_at (enc := enc) (C := Tryd.checked) false ({ World.holding Tryd.prog os ⟨#[], #[], []⟩ with heap := ((World.holding Tryd.prog os ⟨#[], #[], []⟩).heap.modify 0 fun | .cells _ t frozen => .cells #[.int .u8 64, .int .u8 90, .int .u8 127, .int .u8 123, .int .u8 91, .int .u8 108, .int .u8 80, .int .u8 125, .int .u8 77, .int .u8 93, .int .u8 92, .int .u8 78, .int .u8 107, .int .u8 96, .int .u8 75, .int .u8 97, .int .u8 240, .int .u8 241, .int .u8 242, .int .u8 243, .int .u8 244, .int .u8 245, .int .u8 246, .int .u8 247, .int .u8 248, .int .u8 249, .int .u8 122, .int .u8 94, .int .u8 76, .int .u8 126, .int .u8 110, .int .u8 111, .int .u8 124, .int .u8 193, .int .u8 194, .int .u8 195, .int .u8 196, .int .u8 197, .int .u8 198, .int .u8 199, .int .u8 200, .int .u8 201, .int .u8 209, .int .u8 210, .int .u8 211, .int .u8 212, .int .u8 213, .int .u8 214, .int .u8 215, .int .u8 216, .int .u8 217, .int .u8 226, .int .u8 227, .int .u8 228, .int .u8 229, .int .u8 230, .int .u8 231, .int .u8 232, .int .u8 233, .int .u8 186, .int .u8 224, .int .u8 187, .int .u8 176, .int .u8 109, .int .u8 121, .int .u8 129, .int .u8 130, .int .u8 131, .int .u8 132, .int .u8 133, .int .u8 134, .int .u8 135, .int .u8 136, .int .u8 137, .int .u8 145, .int .u8 146, .int .u8 147, .int .u8 148, .int .u8 149, .int .u8 150, .int .u8 151, .int .u8 152, .int .u8 153, .int .u8 162, .int .u8 163, .int .u8 164, .int .u8 165, .int .u8 166, .int .u8 167, .int .u8 168, .int .u8 169, .int .u8 192, .int .u8 79, .int .u8 208, .int .u8 161] t frozen | o => o) } : World) #[.int .i64 0] rfl (by kernel_rfl) (by kernel_rfl) (by kernel_rfl)
      (OpenSpec.preRow_of_cond 8 hx (by kernel_rfl) (fun k hk => by cases hk) (by kernel_rfl) (laid_met os))) ?_
  intro W base args ds gs before hval hW _ hcond _ hL _ _
  exact contract H enc W base args ds gs before hval hW hL

theorem said : Rows.DigitsLettersSaid :=
  OpenClaim.holds_of_cond 5 Tryd.f5 rfl rfl rfl rfl rfl rfl rfl ⟨rfl, rfl, rfl, rfl, rfl⟩ rfl rfl rfl rfl rfl (by kernel_rfl) Tryd.func5 (by kernel_rfl)
    (of_decide_eq_true (by kernel_rfl)) (by unfold Func.isWrapper; first | (rw [if_pos (by decide +kernel)]; kernel_rfl) | (rw [if_neg (by decide +kernel)]; exact ⟨rfl, rfl⟩))
    (fun os started H enc _ F => by rw [OpenClaim.pre_eq_preRow]; exact lifted os started H enc F)
theorem plain (f : FuncId) (fn : Func) (hf : Tryd.pinned.checked.prog.funcNamed "turnstile/turnstilelaw1.DigitsLetters" = some f) (hfn : Tryd.pinned.checked.prog.funcs[f]? = some fn) :
    false = Tryd.pinned.checked.prog.looks [] ∧ ∀ (j : Nat) t, fn.params[j]? = some t → Tryd.pinned.checked.prog.wantsStandIn t = false := by
  obtain rfl : f = 5 := Option.some.inj ((show Tryd.prog.funcNamed "turnstile/turnstilelaw1.DigitsLetters" = some 5 by kernel_rfl).symm.trans hf) |>.symm
  obtain rfl : fn = Tryd.f5 := (Option.some.inj (Tryd.func5.symm.trans hfn)).symm
  refine ⟨by kernel_rfl, fun j t ht => ?_⟩
  rw [Tryd.params5] at ht
  have hm : t = 3 := by
    rcases j with _ | j
    all_goals first | (simp at ht; omega) | (simp at ht; exact Or.inl ht.symm) | (simp at ht; exact Or.inr ht.symm) | (simp at ht; exact ht.symm) | (simp at ht; done)
  rcases hm with rfl
  exact (show Tryd.prog.wantsStandIn 3 = false by kernel_rfl)

theorem proved : Rows.DigitsLettersCardSaid :=
  Claim7.holds_tied_plain_at .later [] _ _ _ _ said (fun _ h => by cases h) (by kernel_rfl) (fun _ h => by cases h) digitsLetters_row_tie rfl ⟨rfl, rfl⟩ (by kernel_rfl) rfl plain (by kernel_rfl)
#print axioms proved
end Go.Proofs.YtekbonfaaofdiabDoor.digitsLetters
