/- The laws' book: still. -/
import Derived.Test.YtgidjfhlooggkaaBq
import Derived.BigQuiet
namespace Go.Proofs.Ytgidjfhlooggkaa.Bs
set_option linter.unusedVariables false
set_option linter.unusedSimpArgs false
open Go.RowKit Kb Nt Li Bo Bp Bq
structure Held (w : World) (g0 : Nat) (E : List (Value × Int)) (lv mv : Value) (b : Nat) : Prop where
  book : w.heap[g0]? = some (.cells #[lv, mv] 32)
  lrow : w.ownsRow b 23 1 lv E.length (E.map (·.1))
  mrow : w.ownsRow b 3 1 mv E.length (E.map fun p => .int .i64 p.2)
  ent : ∀ p ∈ E, w.ownsRow 0 40 3 p.1 (ln p.1) (mkC p.2 (ln p.1)) ∧ ln p.1 ≤ 2097152
  many : E.length ≤ 30000
theorem Held.below {w x : World} {g0 b : Nat} {E : List (Value × Int)} {lv mv : Value} (h : Held w g0 E lv mv b) (k : Below w.heap.size w x) : Held x g0 E lv mv b :=
  ⟨kept k h.book, owns_keep h.lrow fun q hq => k.block q (h.lrow.lt q hq).2, owns_keep h.mrow fun q hq => k.block q (h.mrow.lt q hq).2, fun p hp => ⟨owns_keep (h.ent p hp).1 fun q hq => k.block q ((h.ent p hp).1.lt q hq).2, (h.ent p hp).2⟩, h.many⟩
theorem at_row {w : World} {b e n : Nat} {o : Option Addr} {c : Nat} {xs : List Value} (h : w.ownsRow b e 1 (.slice o n c) n xs) (i : Nat) (hi : i < n) (u : Value) (hu : xs[i]? = some u) : ∃ a, o = some a ∧ w.cell? (a.add i) = some u := by
  rcases h.2 with ⟨e, hz⟩ | ⟨g, c, cur, e, _⟩
  · omega
  · injection e with e1 e2 e3
    exact ⟨⟨g, 0, none⟩, e1, h.cells (g := g) (by rw [e1]; rfl) i u hu⟩
theorem at_node {w : World} {b n : Nat} {o : Option Addr} {c : Nat} {m : Int} (h : w.ownsRow b 40 3 (.slice o n c) n (mkC m n)) (k : Nat) (hk : k < n) : ∃ g, o = some ⟨g, 0, none⟩ ∧ w.cell? ⟨g, k * 3, none⟩ = some (.int .i64 m) ∧ w.cell? ⟨g, k * 3 + 1, none⟩ = some (.string ⟨#[]⟩) ∧ w.cell? ⟨g, k * 3 + 2, none⟩ = some (.slice none 0 0) := by
  rcases h.2 with ⟨e, hz⟩ | ⟨g, c, cur, e, _⟩
  · omega
  · injection e with e1 e2 e3
    obtain ⟨k0, k1, k2⟩ := mkC_at m n k hk
    have hc := h.cells (g := g) (by rw [e1]; rfl)
    refine ⟨g, e1, ?_, ?_, ?_⟩
    · rw [← add0]; exact hc _ _ k0
    · rw [← add0]; exact hc _ _ k1
    · rw [← add0]; exact hc _ _ k2
theorem blk3 {x : World} {g : Nat} {a b c : Value} {t : TypeId} (h : x.heap[g]? = some (.cells #[a, b, c] t)) :
    (x.cell? ⟨g, 0, none⟩ = some a ∧ x.cell? ⟨g, 1, none⟩ = some b ∧ x.cell? ⟨g, 2, none⟩ = some c) := by
  refine ⟨?_, ?_, ?_⟩ <;> simp [World.cell?, h]
theorem infoN : (Try.prog.info? 40).map (·.size) = some 3 := by kernel_rfl
abbrev zn : Array Value := #[.int .i64 0, .string ⟨#[]⟩, .slice none 0 0]
set_option maxRecDepth 100000 in
set_option maxHeartbeats 3200000 in
theorem still_any {w : World} {g0 b : Nat} {E : List (Value × Int)} {lv mv : Value} (h : Held w g0 E lv mv b) :
    Calls Try.prog 14 #[.pointer (some ⟨g0, 0, none⟩)] w fun e w' => e = .returned (.bool true) ∧ Below w.heap.size w w' := by
  have H : Hid (Held w g0 E lv mv b) := h
  obtain ⟨LE, HLE, hLE⟩ : ∃ LE, Hid (E.length = LE) ∧ LE ≤ 30000 := ⟨_, rfl, h.many⟩
  obtain ⟨lo, lc, el⟩ := formL h.lrow
  obtain ⟨mo, mc, em⟩ := formL h.mrow
  rw [HLE.out] at el em
  subst el
  subst em
  clear h
  go_enter Try.func14, Try.ntmps14
  go_wp2
  go_loopw [3] (fun vi wr => ∃ i : Nat, i ≤ LE ∧ vi = .int .i64 (i : Int) ∧ Below w.heap.size w wr) (fun vi _ => LE + 1 - (intOf vi).toNat)
  case atStart => exact ⟨0, Nat.zero_le _, rfl, Below.refl _ _⟩
  case round =>
    obtain ⟨i, hi, rfl, hwr⟩ := hrel
    rename World => wr
    by_cases hlt : i < LE
    · have hlt' : (i : Int) < (LE : Int) := by omega
      have hiE : i < E.length := by rw [HLE.out]; exact hlt
      obtain ⟨⟨b0, b1⟩, -⟩ := cells2 (H.out.below hwr).book
      have HWR : Hid (Below w.heap.size w wr) := hwr
      clear hwr
      go_wp2
      go_loopw [4] (fun vk wx => ∃ k : Nat, vk = .int .i64 (k : Int) ∧ k ≤ ln (E[i]?.getD (undef, 0)).1 ∧ Below w.heap.size w wx) (fun vk _ => ln (E[i]?.getD (undef, 0)).1 + 1 - (intOf vk).toNat)
      case atStart => exact ⟨0, rfl, Nat.zero_le _, HWR.out⟩
      case round =>
        obtain ⟨k, rfl, hk, hwx⟩ := hrel
        rename World => wx
        have h := H.out.below hwx
        obtain ⟨he, hln⟩ := h.ent E[i] (List.getElem_mem hiE)
        have hgE : E[i]?.getD (undef, 0) = E[i] := by rw [List.getElem?_eq_getElem hiE]; rfl
        have lr := h.lrow
        have mr := h.mrow
        rw [HLE.out] at lr mr
        obtain ⟨a1, rfl, ca⟩ := at_row lr i hlt E[i].1 (by rw [List.getElem?_map, List.getElem?_eq_getElem hiE]; rfl)
        obtain ⟨a2, rfl, cm⟩ := at_row mr i hlt (.int .i64 E[i].2) (by rw [List.getElem?_map, List.getElem?_eq_getElem hiE]; rfl)
        have HGE : Hid (ln (E[i]?.getD (undef, 0)).1 = ln E[i].1) := by show _ = _; rw [hgE]
        rw [hgE] at hk
        obtain ⟨p, hp⟩ : ∃ p, E[i] = p := ⟨_, rfl⟩
        have HPE : Hid (E[i] = p) := hp
        have HGE2 : Hid (ln (E[i]?.getD (undef, 0)).1 = ln p.1) := by show _ = _; rw [hgE, hp]
        rw [hp] at he hln ca cm hk
        clear HGE
        obtain ⟨v, m⟩ := p
        simp only at he hln ca cm hk HGE2
        obtain ⟨o, c, e⟩ := formL he
        obtain ⟨n, HN⟩ : ∃ n, Hid (ln v = n) := ⟨_, rfl⟩
        rw [HN.out] at e hln hk he HGE2
        subst e
        obtain ⟨⟨b0, b1⟩, -⟩ := cells2 h.book
        by_cases hkn : k < n
        · have q1 : (k : Int) < (n : Int) := by omega
          obtain ⟨g, rfl, c0, c1, c2⟩ := at_node he k hkn
          have hR := h1_0 wx (.cells zn 40)
          have B1 : Below w.heap.size w ((wx.alloc (.cells zn 40)).setRow wx.heap.size #[.int .i64 m, .string ⟨#[]⟩, .slice none 0 0]) := below_setRow (hwx.trans ((Below.refl _ wx).alloc hwx.size _)) hwx.size _
          have hX := setRow_at hR #[.int .i64 m, .string ⟨#[]⟩, .slice none 0 0]
          have HB1 : Hid (Below w.heap.size w ((wx.alloc (.cells zn 40)).setRow wx.heap.size #[.int .i64 m, .string ⟨#[]⟩, .slice none 0 0])) := B1
          have HX : Hid (((wx.alloc (.cells zn 40)).setRow wx.heap.size #[.int .i64 m, .string ⟨#[]⟩, .slice none 0 0]).heap[wx.heap.size]? = some (.cells #[.int .i64 m, .string ⟨#[]⟩, .slice none 0 0] 40)) := hX
          clear lr mr hp hgE he h B1 hX hwx
          go_wp2_with (refine wpList_store_row rfl 40 _ _ rfl wx.heap.size _ rfl rfl _ _ hR infoN rfl (by simp [Value.oneCell']) ?_)
          obtain ⟨bx, HBX⟩ : ∃ bx, Hid (wx.heap.size = bx) := ⟨_, rfl⟩
          obtain ⟨y, HY⟩ : ∃ y, Hid (y = (wx.alloc (.cells zn 40)).setRow wx.heap.size #[.int .i64 m, .string ⟨#[]⟩, .slice none 0 0]) := ⟨_, rfl⟩
          rw [← HY.out] at HX HB1 ⊢
          rw [HBX.out] at HX ⊢
          obtain ⟨x0, x1, x2⟩ := blk3 HX.out
          have h2 := H.out.below HB1.out
          obtain ⟨⟨b0, b1⟩, -⟩ := cells2 h2.book
          have cm2 : y.cell? (a2.add i) = some (.int .i64 m) := by
            have mr := h2.mrow
            rw [HLE.out] at mr
            obtain ⟨a3, e3, cm3⟩ := at_row mr i hlt (.int .i64 m) (by rw [List.getElem?_map, List.getElem?_eq_getElem hiE, ‹Hid (E[i] = (Value.slice (some ⟨g, 0, none⟩) n c, m))›.out]; rfl)
            injection e3 with e3
            rw [e3]; exact cm3
          clear hR c0 c1 c2 ca cm HX h2 HY HBX
          go_quiet (fail)
          have HB2 : Hid (Below w.heap.size w (y.drewN nq)) := below_drewN HB1.out nq
          clear x0 x1 x2 b0 b1 cm2
          go_wp2_with fail
          have e1 := HGE2.out
          exact ⟨⟨k + 1, by go_num, by omega, HB2.out⟩, by simp only [intOf]; omega⟩
        · have q1 : ¬ (k : Int) < (n : Int) := by omega
          have HB2 : Hid (Below w.heap.size w wx) := hwx
          clear lr mr hp hgE he h hwx
          go_wp2_with fail
          exact ⟨⟨i + 1, by omega, by go_num, HB2.out⟩, by simp only [intOf]; omega⟩
    · have hlt' : ¬ (i : Int) < (LE : Int) := by omega
      obtain ⟨⟨b0, b1⟩, -⟩ := cells2 (H.out.below hwr).book
      have HWR : Hid (Below w.heap.size w wr) := hwr
      clear hwr
      go_wp2
      go_ret
      exact ⟨rfl, HWR.out⟩
end Go.Proofs.Ytgidjfhlooggkaa.Bs
