/- totals: Note of a deal. -/
import Derived.Test.YteaanenhefbkjaaDoorTg
import Derived.Deep.RegionHeld3
import Derived.BigQuiet
namespace Go.Proofs.YteaanenhefbkjaaDoor.Tn
set_option linter.unusedVariables false
set_option linter.unusedSimpArgs false
open Go.RowKit Lib0 Kb Xp Ic Ta Hp Hr Ht Hu Hx Tb Tc Td Te Tf Tg Num
attribute [local go_sem] Oper.semAt_some
def updF (F : Nat → Nat → Int) (k : Nat) (f : Nat → Int) : Nat → Nat → Int := fun i => if i = k then f else F i
theorem setCells_heap_ne {g k : Nat} (hne : g ≠ k) : ∀ (vs : List Value) (o : Nat) (x : World), (x.setCells g o vs).heap[k]? = x.heap[k]?
  | [], _, _ => rfl
  | v :: r, o, x => by
    rw [World.setCells, setCells_heap_ne hne r (o + 1), setCell_ne (p := ⟨g, o, none⟩) hne]
theorem setCells_below {B : Nat} {a : World} {g : Nat} (hB : B ≤ g) : ∀ (vs : List Value) (o : Nat) (x : World), Below B a x → Below B a (x.setCells g o vs)
  | [], _, _, h => h
  | v :: r, o, x, h => by
    rw [World.setCells]
    exact setCells_below hB r (o + 1) _ (h.setCell hB _)
theorem setCells_size (g : Nat) (vs : List Value) (o : Nat) (x : World) : x.heap.size ≤ (x.setCells g o vs).heap.size := (setCells_below (Nat.zero_le g) vs o x (Below.refl 0 x)).size
theorem bk_store {x : World} {base b g n : Nat} {F : Nat → Nat → Int} (h : BkT x base b g n F) (k : Nat) (hk : k < n) (f : Nat → Int) : BkT (x.setCells g (k * 12) (ta f).toList) base b g n (updF F k f) := by
  have hl : ∀ f : Nat → Int, (ta f).toList.length = 12 := fun _ => rfl
  refine ⟨?_, fun i hi => ?_, fun i hi => World.there_setCells (h.there i hi) _ _ _, h.lowb, h.lowg, ?_, h.ne, h.pos, h.few⟩
  · have hh := setCells_heap_ne (Ne.symm h.ne) (ta f).toList (k * 12) x
    rw [hh]; exact h.blk
  · unfold updF
    by_cases e : i = k
    · subst e
      rw [if_pos rfl]
      exact World.rangeAt_setCells_same x g (i * 12) (ta f).toList (by rw [hl]; exact h.there i hi)
    · rw [if_neg e]
      exact World.rangeAt_setCells_apart (h.rows i hi) g (k * 12) (ta f).toList (.inr (by rw [hl, hl]; omega))
  · exact Nat.lt_of_lt_of_le h.ltg (setCells_size ..)
theorem there_of {x : World} {g : Nat} {cs : Array Value} {t : TypeId} (h : x.heap[g]? = some (.cells cs t (0, 0))) (hs : cs.size = 12) : x.there g 0 12 := fun j hj => by
  refine ⟨?_, by simp [World.frozen?, h]⟩
  have : (cs[0 + j]?).isSome = true := by rw [Array.getElem?_eq_getElem (show 0 + j < cs.size by omega)]; rfl
  simp only [World.cell?, h]
  simpa using this
/-- what is new lies there, all else is as it was -/
structure Fi (y2 : World) (G : Nat → Int) (blk : Nat) (V : World) : Prop where
  rng : V.rangeAt blk 0 (ta G).toList
  bel : Below y2.heap.size y2 V
theorem fi_of {y2 W : World} {blk : Nat} (G : Nat → Int) (ht : W.there blk 0 12) (hb : Below y2.heap.size y2 W) (hl : y2.heap.size ≤ blk) : Fi y2 G blk (W.setCells blk 0 (ta G).toList) :=
  ⟨World.rangeAt_setCells_same W blk 0 (ta G).toList ht, setCells_below hl _ _ _ hb⟩
theorem Fi.below {y2 V Z : World} {G : Nat → Int} {blk : Nat} (h : Fi y2 G blk V) (k : Below V.heap.size V Z) : Fi y2 G blk Z := ⟨fun j v hv => (k.cell (World.block_lt_of_cell? _ _ (h.rng j v hv))).trans (h.rng j v hv), keepB h.bel k⟩
/-- a struct out of the middle of a block, in a region that draws its order -/
theorem q_mid {P : Program} {ops : Array Oper} {o : Oper} {a : Act} {x : World} {K : Act → Prop} (hw : Region.wanted o (yielded ops a.tmps) = true) (ty : TypeId) (xo : Operand) (ho : o.op = .load ty xo)
    (b k : Nat) (hx : a.eval xo = .pointer (some ⟨b, k, none⟩)) (cs : List Value) (hc : x.rangeAt b k cs) (hb : b < x.heap.size) (d : TypeDesc) (hu : P.underlying ty = some d) (hd : d.isRow = true) (hi : (P.info? ty).map (·.size) = some cs.length)
    (h : K (a.put o.dst (.agg cs.toArray))) : if Region.wanted o (yielded ops a.tmps) then o.quiet P a (Ql.Cl x) K else K (a.put o.dst undef) := by
  rw [if_pos hw]
  refine ⟨.agg cs.toArray, fun y hy => ?_, h⟩
  unfold Oper.quietAt execOp
  have hl := run_loadVar_mid (P := P) y b k ty cs d (fun j v hv => (Below.cell hy hb).trans (hc j v hv)) hu hd hi
  simp only [ho, hx, Instr.loadAt, Instr.sureAddr, Sem.run_bind, Sem.run_pure, Result.andThen_ok, hl]
  exact ⟨rfl, rfl⟩
set_option maxRecDepth 100000 in
set_option maxHeartbeats 6400000 in
theorem note_any {x : World} {base b g n : Nat} {F : Nat → Nat → Int} (h : BkT x base b g n F) (hbase : base ≤ x.heap.size) (k : Nat) (hk : k < n) (mti mti2 : ByteArray) (hm : mti.size ≤ 1000) (hc : dg mti 1 = 1 ∨ dg mti 1 = 2 ∨ dg mti 1 = 4) (he : anE mti = 0) (hs_ : anS mti = mti2)
    (v v2 : Value) (B : Nat → Int) (hr : ∃ (o : Option Addr) (l c : Nat), v = .slice o l c) (hr2 : ∃ (o : Option Addr) (l c : Nat), v2 = .slice o l c)
    (HBR : ∀ y, Below x.heap.size x y → Calls Tryd.prog 22 #[.agg #[.string mti, v], .agg #[.string mti2, v2]] y fun e w' => e = .returned (.agg (ta B)) ∧ Below y.heap.size y w')
    (hb : ∀ j, j < 12 → 0 ≤ F k j ∧ 0 ≤ B j ∧ F k j + B j ≤ mostK j) :
    Calls Tryd.prog 11 #[.pointer (some ⟨b, 0, none⟩), .int .i64 (k : Int), .agg #[.string mti, v], .agg #[.string mti2, v2]] x fun e w' => e = .returned (.int .i64 0) ∧ BkT w' base b g n (updF F k (sumT (F k) B)) ∧ Below base x w' := by
  obtain ⟨o, l, c, rfl⟩ := hr
  obtain ⟨o2, l2, c2, rfl⟩ := hr2
  obtain ⟨X, hX⟩ : ∃ X, (x.alloc (.cells #[.string mti, .slice o l c] tMs)).alloc (.cells #[.string mti2, .slice o2 l2 c2] tMs) = X := ⟨_, rfl⟩
  have BX : Below x.heap.size x X := hX ▸ below_two _ _ _
  have hm6 : X.heap[x.heap.size]? = some (.cells #[.string mti, .slice o l c] tMs (0, 0)) := hX ▸ h2_0 _ _ _
  have hm7 : X.heap[x.heap.size + 1]? = some (.cells #[.string mti2, .slice o2 l2 c2] tMs (0, 0)) := hX ▸ h2_1 _ _ _
  have HX : Hid ((x.alloc (.cells #[.string mti, .slice o l c] tMs)).alloc (.cells #[.string mti2, .slice o2 l2 c2] tMs) = X) := hX
  have HBK : Hid (∀ y, Below X.heap.size X y → BkT y base b g n F ∧ y.heap[x.heap.size]? = some (.cells #[.string mti, .slice o l c] tMs (0, 0)) ∧ y.heap[x.heap.size + 1]? = some (.cells #[.string mti2, .slice o2 l2 c2] tMs (0, 0)) ∧ Below x.heap.size x y) := fun y hy => ⟨(h.below BX).below hy, kept hy hm6, kept hy hm7, keepB BX hy⟩
  have HH : Hid (Calls Tryd.prog 12 #[.pointer (some ⟨b, 0, none⟩), .int .i64 (k : Int)] X fun e w' => e = .returned (.bool true) ∧ w' = X) := has_yes (h.below BX) k hk
  have HCO : Hid (∀ y, Calls Tryd.prog 19 #[.string mti] y fun e w' => e = .returned (.bool true) ∧ Below y.heap.size y w') := fun y => isCounted_yes mti hm hc y
  have HAN : Hid (∀ y, Calls Tryd.prog 20 #[.string mti, .string mti2] y fun e w' => e = .returned (.bool true) ∧ Below y.heap.size y w') := fun y => isAnswered_yes mti mti2 hm he hs_ y
  have HBW : Hid (∀ y, Below x.heap.size x y → Calls Tryd.prog 22 #[.agg #[.string mti, .slice o l c], .agg #[.string mti2, .slice o2 l2 c2]] y fun e w' => e = .returned (.agg (ta B)) ∧ Below y.heap.size y w') := HBR
  have HPL : Hid (∀ y, Calls Tryd.prog 21 #[.agg (ta (F k)), .agg (ta B)] y fun e w' => e = .returned (.agg (ta (sumT (F k) B))) ∧ Below y.heap.size y w') := fun y => plus_any (F k) B hb y
  have HOV : Hid (∀ y, Calls Tryd.prog 23 #[.agg (ta (sumT (F k) B))] y fun e w' => e = .returned (.bool false) ∧ Below y.heap.size y w') := fun y => isOver_no _ (fun j hj => (hb j hj).2.2) y
  have HST : Hid (∀ y f, BkT y base b g n F → BkT (y.setCells g (k * 12) (ta f).toList) base b g n (updF F k f)) := fun y f hy => bk_store hy k hk f
  have HLG : Hid (base ≤ g ∧ base ≤ x.heap.size) := ⟨h.lowg, hbase⟩
  have HKN : Hid (k < n) := hk
  have q0 : (k : Int) < (n : Int) := by omega
  have q1 : (0 : Int) ≤ (k : Int) := by omega
  have HROW : Hid (∀ y, BkT y base b g n F → y.rangeAt g (k * 12) (ta (F k)).toList ∧ y.there g (k * 12) 12) := fun y hy => ⟨hy.rows k hk, hy.there k hk⟩
  clear h hm hc he hs_ HBR hb BX hm6 hm7 hX hk hbase
  generalize sumT (F k) B = G at *
  generalize F k = f at *
  go_enter Tryd.func11, Tryd.ntmps11
  go_wp2_with fail
  rw [HX.out]
  refine HH.out.mono ?_
  rintro e y ⟨rfl, rfl⟩
  obtain ⟨hb0, h60, h70, -⟩ := HBK.out y (Below.refl _ _)
  have d0 : y.cell? ⟨x.heap.size, 0, none⟩ = some (.string mti) := by simp [World.cell?, h60]
  clear hb0 h60 h70
  go_wp2_with fail
  refine (HCO.out _).mono ?_
  rintro e y1 ⟨rfl, hy1⟩
  have HY1 : Hid (Below y.heap.size y y1) := hy1
  obtain ⟨-, h61, h71, -⟩ := HBK.out y1 hy1
  have d1 : y1.cell? ⟨x.heap.size, 0, none⟩ = some (.string mti) := by simp [World.cell?, h61]
  have d2 : y1.cell? ⟨x.heap.size + 1, 0, none⟩ = some (.string mti2) := by simp [World.cell?, h71]
  clear hy1 h61 h71 d0
  go_wp2_with fail
  refine (HAN.out _).mono ?_
  rintro e y2 ⟨rfl, hy2⟩
  have HY2 : Hid (Below y.heap.size y y2) := keepB HY1.out hy2
  obtain ⟨hbk2, h62, h72, hx2⟩ := HBK.out y2 HY2.out
  have c0 := hbk2.cell
  obtain ⟨hrg, -⟩ := HROW.out y2 hbk2
  have l0 : b < y2.heap.size := World.block_lt_of_cell? _ _ c0
  have l1 := hbk2.ltg
  have hbw := fun z (hz : Below y2.heap.size y2 z) => HBW.out z (keepB hx2 hz)
  have e0 : y2.cell? ⟨x.heap.size, 0, none⟩ = some (.string mti) := by simp [World.cell?, h62]
  have e1 : y2.cell? ⟨x.heap.size, 1, none⟩ = some (.slice o l c) := by simp [World.cell?, h62]
  have e2 : y2.cell? ⟨x.heap.size + 1, 0, none⟩ = some (.string mti2) := by simp [World.cell?, h72]
  have e3 : y2.cell? ⟨x.heap.size + 1, 1, none⟩ = some (.slice o2 l2 c2) := by simp [World.cell?, h72]
  have l2' := World.block_lt_of_cell? _ _ e0
  have l3' := World.block_lt_of_cell? _ _ e2
  have hld : ∀ w' : World, w'.rangeAt g (k * 12) (ta f).toList → (Instr.loadAt tTa (.pointer (some ⟨g, k * 12, none⟩))).run Tryd.prog w' = .ok (.agg (ta f)) w' := fun w' hw => run_loadAt_mid w' g (k * 12) tTa (ta f).toList _ hw Tryd.underlying53 rfl infoTa
  have hu := Tryd.underlying53
  have hi : (Tryd.prog.info? tTa).map (·.size) = some (ta f).toList.length := infoTa
  have hiG : (Tryd.prog.info? tTa).map (·.size) = some (ta G).toList.length := infoTa
  have hlG : (ta G).toList.length = 12 := rfl
  have hoG : ∀ v ∈ (ta G).toList, v.oneCell' = true := by simp [ta, Value.oneCell']
  have hpl : ∀ z, Calls Tryd.prog 21 #[.agg (ta f), .agg (ta B)] z fun e w' => e = .returned (.agg (ta G).toList.toArray) ∧ Below z.heap.size z w' := HPL.out
  obtain ⟨CF, HCF⟩ : ∃ CF, Hid ((ta f).toList = CF) := ⟨_, rfl⟩
  obtain ⟨CG, HCG⟩ : ∃ CG, Hid ((ta G).toList = CG) := ⟨_, rfl⟩
  obtain ⟨TB, HTB⟩ : ∃ TB, Hid (ta B = TB) := ⟨_, rfl⟩
  have hpl2 : ∀ z, Calls Tryd.prog 21 #[.agg CF.toArray, .agg TB] z fun e w' => e = .returned (.agg CG.toArray) ∧ Below z.heap.size z w' := fun z => by
    have h9 := hpl z
    rw [← HCF.out, ← HCG.out, ← HTB.out]
    exact h9
  have hbw2 : ∀ z, Below y2.heap.size y2 z → Calls Tryd.prog 22 #[.agg #[.string mti, .slice o l c], .agg #[.string mti2, .slice o2 l2 c2]] z fun e w' => e = .returned (.agg TB) ∧ Below z.heap.size z w' := fun z hz => by
    have h9 := hbw z hz
    rw [HTB.out] at h9
    exact h9
  rw [HCF.out] at hrg hi
  rw [HCG.out] at hiG hlG hoG
  have HFI : Hid (∀ (W : World) (blk : Nat), W.there blk 0 CG.length → Below y2.heap.size y2 W → y2.heap.size ≤ blk → Fi y2 G blk (W.setCells blk 0 CG)) := fun W blk h1 h2 h3 => by
    rw [hlG] at h1
    rw [← HCG.out]
    exact fi_of G h1 h2 h3
  have HL12 : Hid (CG.length = 12) := hlG
  have SY : Hid (∀ V, Below y2.heap.size y2 V → V.cell? ⟨b, 0, none⟩ = some (.slice (some ⟨g, 0, none⟩) n n) ∧ V.rangeAt g (k * 12) CF ∧ V.cell? ⟨x.heap.size, 0, none⟩ = some (.string mti) ∧ V.cell? ⟨x.heap.size, 1, none⟩ = some (.slice o l c) ∧ V.cell? ⟨x.heap.size + 1, 0, none⟩ = some (.string mti2) ∧ V.cell? ⟨x.heap.size + 1, 1, none⟩ = some (.slice o2 l2 c2) ∧ Below y2.heap.size y2 V) := fun V hV => ⟨(hV.cell l0).trans c0, fun j v hv => (hV.cell l1).trans (hrg j v hv), (hV.cell l2').trans e0, (hV.cell (World.block_lt_of_cell? _ _ e1)).trans e1, (hV.cell l3').trans e2, (hV.cell (World.block_lt_of_cell? _ _ e3)).trans e3, hV⟩
  have HOV2 : Hid (∀ z, Calls Tryd.prog 23 #[.agg CG.toArray] z fun e w' => e = .returned (.bool false) ∧ Below z.heap.size z w') := fun z => by
    have h9 := HOV.out z
    rw [← HCG.out]
    exact h9
  clear hpl hbw hld
  have hrgd : y2.drew.rangeAt g (k * 12) CF := (World.rangeAt_drew _ _ _ _).2 hrg
  have hy0a : Below y2.heap.size y2 (y2.drew.alloc (.cells #[.int .i64 0, .int .i64 0, .int .i64 0, .int .i64 0, .int .i64 0, .int .i64 0, .int .i64 0, .int .i64 0, .int .i64 0, .int .i64 0, .int .i64 0, .int .i64 0] tTa)) := keepB ((Below.refl _ _).drew) (below_one _ _)
  clear hy2 d1 d2 hbk2 h62 h72 hx2
  go_wp2_with fail
  go_region_held3 (fun w' => w'.cell? ⟨b, 0, none⟩ = some (.slice (some ⟨g, 0, none⟩) n n) ∧ w'.rangeAt g (k * 12) CF ∧ w'.cell? ⟨x.heap.size, 0, none⟩ = some (.string mti) ∧ w'.cell? ⟨x.heap.size, 1, none⟩ = some (.slice o l c) ∧ w'.cell? ⟨x.heap.size + 1, 0, none⟩ = some (.string mti2) ∧ w'.cell? ⟨x.heap.size + 1, 1, none⟩ = some (.slice o2 l2 c2) ∧ Below y2.heap.size y2 w') (first | with_reducible exact SY.out _ HV3.out.bel | with_reducible exact SY.out _ HV2.out.bel | with_reducible exact SY.out _ HV1.out.bel | (repeat' refine And.intro ?_ ?_) <;> first | assumption | with_reducible exact World.rangeAt_alloc gr _ | with_reducible exact World.rangeAt_alloc fr _ | with_reducible exact World.rangeAt_alloc hrgd _ | with_reducible exact (Below.refl _ _).drew | with_reducible exact hrgd | (go_keep_ranges; done) | (go_keep; done))
    (first
      | (go_at_call 22; refine (hbw2 _ (And.right (And.right (And.right (And.right (And.right (And.right (by assumption)))))))).mono ?_; rintro e z1 ⟨rfl, hz1⟩; have hy : Below y2.heap.size y2 z1 := keepB (And.right (And.right (And.right (And.right (And.right (And.right (by assumption))))))) hz1; have hy1a : Below y2.heap.size y2 (z1.alloc (.cells #[.int .i64 0, .int .i64 0, .int .i64 0, .int .i64 0, .int .i64 0, .int .i64 0, .int .i64 0, .int .i64 0, .int .i64 0, .int .i64 0, .int .i64 0, .int .i64 0] tTa)) := keepB hy (below_one _ _); have f0 := (hy.cell l0).trans c0; have fr : z1.rangeAt g (k * 12) CF := (fun j v hv => (hy.cell l1).trans (hrg j v hv)); have f1 := (hy.cell l2').trans e0; have f2 := (hy.cell l2').trans e1; have f3 := (hy.cell l3').trans e2; have f4 := (hy.cell l3').trans e3; try (have hT1 : Hid _ := kept hz1 (h1_0 y2.drew (.cells #[.int .i64 0, .int .i64 0, .int .i64 0, .int .i64 0, .int .i64 0, .int .i64 0, .int .i64 0, .int .i64 0, .int .i64 0, .int .i64 0, .int .i64 0, .int .i64 0] tTa))); clear hz1)
      | (go_at_call 21; refine (hpl2 _).mono ?_; rintro e z2 ⟨rfl, hz2⟩; have hyy : Below y2.heap.size y2 z2 := keepB (And.right (And.right (And.right (And.right (And.right (And.right (by assumption))))))) hz2; have hya : Below y2.heap.size y2 (z2.alloc (.cells #[.int .i64 0, .int .i64 0, .int .i64 0, .int .i64 0, .int .i64 0, .int .i64 0, .int .i64 0, .int .i64 0, .int .i64 0, .int .i64 0, .int .i64 0, .int .i64 0] tTa)) := keepB hyy (below_one _ _); have g0 := (hyy.cell l0).trans c0; have gr : z2.rangeAt g (k * 12) CF := (fun j v hv => (hyy.cell l1).trans (hrg j v hv)); have g1 := (hyy.cell l2').trans e0; have g2 := (hyy.cell l2').trans e1; have g3 := (hyy.cell l3').trans e2; have g4 := (hyy.cell l3').trans e3; have ht3 : (z2.alloc (.cells #[.int .i64 0, .int .i64 0, .int .i64 0, .int .i64 0, .int .i64 0, .int .i64 0, .int .i64 0, .int .i64 0, .int .i64 0, .int .i64 0, .int .i64 0, .int .i64 0] tTa)).there z2.heap.size 0 CG.length := HL12.out.symm ▸ there_of (h1_0 _ _) rfl; have HV3 : Hid (Fi y2 G z2.heap.size ((z2.alloc (.cells #[.int .i64 0, .int .i64 0, .int .i64 0, .int .i64 0, .int .i64 0, .int .i64 0, .int .i64 0, .int .i64 0, .int .i64 0, .int .i64 0, .int .i64 0, .int .i64 0] tTa)).setCells z2.heap.size 0 CG)) := HFI.out _ _ ht3 (keepB hyy (below_one _ _)) hyy.size; (first | (have ht2 : z2.there z1.heap.size 0 CG.length := HL12.out.symm ▸ there_of (kept hz2 (h1_0 z1 (.cells #[.int .i64 0, .int .i64 0, .int .i64 0, .int .i64 0, .int .i64 0, .int .i64 0, .int .i64 0, .int .i64 0, .int .i64 0, .int .i64 0, .int .i64 0, .int .i64 0] tTa))) rfl; have HV2 : Hid (Fi y2 G z1.heap.size (z2.setCells z1.heap.size 0 CG)) := HFI.out _ _ ht2 hyy hy.size) | (have ht1 : z2.there y2.heap.size 0 CG.length := HL12.out.symm ▸ there_of (kept hz2 hT1.out) rfl; have HV1 : Hid (Fi y2 G y2.heap.size (z2.setCells y2.heap.size 0 CG)) := HFI.out _ _ ht1 hyy (Nat.le_refl _)) | skip); clear hz2)
      | fail)
  · obtain ⟨V, hV⟩ : ∃ V, (z2.alloc (.cells #[.int .i64 0, .int .i64 0, .int .i64 0, .int .i64 0, .int .i64 0, .int .i64 0, .int .i64 0, .int .i64 0, .int .i64 0, .int .i64 0, .int .i64 0, .int .i64 0] tTa)).setCells z2.heap.size 0 CG = V := ⟨_, rfl⟩
    obtain ⟨bl, hbl⟩ : ∃ bl, z2.heap.size = bl := ⟨_, rfl⟩
    have h9 := HV3.out
    rw [hV, hbl] at h9
    rw [hV, hbl]
    have HFV : Hid (Fi y2 G bl V) := h9
    have hr0 : V.rangeAt bl 0 CG := by have := h9.rng; rw [HCG.out] at this; exact this
    clear hV hbl h9
    clear HV3
    go_wp2_with (first
      | (refine wpList_load_mid rfl tTa _ rfl bl 0 (by rfl) CG _ hr0 hu rfl hiG ?_)
      | fail)
    refine (HOV2.out _).mono ?_
    rintro e y3 ⟨rfl, hy3⟩
    have hf3 := HFV.out.below hy3
    have HB3 : Hid (Below y.heap.size y y3) := keepB HY2.out hf3.bel
    obtain ⟨hbk3, -, -, -⟩ := HBK.out y3 HB3.out
    have c3 := hbk3.cell
    have hr3 : y3.rangeAt bl 0 CG := by have := hf3.rng; rw [HCG.out] at this; exact this
    have l3 : b < y3.heap.size := World.block_lt_of_cell? _ _ c3
    have l4 : bl < y3.heap.size := World.block_lt_of_cell? _ _ (hr3 0 _ (List.getElem?_eq_getElem (by rw [HL12.out]; omega)))
    clear hf3 hbk3 hy3 hr0
    go_wp2_with fail
    refine Ql.region_lastL (C := Ql.Cl y3) (by kernel_rfl) rfl (by kernel_rfl) (by kernel_rfl) (by kernel_rfl) rfl ((Below.refl _ _).drew) ?_
    dsimp only [List.dropLast]
    repeat (first | go_big_quiet_skip | (go_big_quiet_want; go_big_quiet_op; first | go_big_quiet_on | (refine ⟨_, fun _ _ => rfl, ?_⟩; go_big_quiet_on) | (refine ⟨_, fun _ _ => ⟨rfl, rfl⟩, ?_⟩; go_big_quiet_on)) | (refine wpQuiet_step (fun K hK => ?_); first
      | (refine Ql.q_cell (by rfl) 54 _ rfl _ _ rfl _ c3 l3 (fun y => Tryd.isAgg54 y) (hK _ ?_); clear hK K; simp only [Act.put, List.setIfInBounds_toArray, List.set_cons_succ, List.set_cons_zero])
      | (refine q_mid (by rfl) tTa _ rfl _ _ rfl CG hr3 l4 _ hu rfl hiG (hK _ ?_); clear hK K; simp only [Act.put, List.setIfInBounds_toArray, List.set_cons_succ, List.set_cons_zero])
      | fail))
    refine wpQuiet_nil ?_
    intro y4 hy4
    have HB4 : Hid (Below y.heap.size y y4) := keepB HB3.out hy4
    have hbk4 := (HBK.out y4 HB4.out).1
    have hth : y4.there g (k * 12) CG.toArray.size := by rw [show CG.toArray.size = 12 from HL12.out]; exact (HROW.out y4 hbk4).2
    have HFIN : Hid (BkT (y4.setCells g (k * 12) CG.toArray.toList) base b g n (updF F k G) ∧ Below base x (y4.setCells g (k * 12) CG.toArray.toList)) := by
      have h8 := HST.out y4 G hbk4
      rw [HCG.out] at h8
      exact ⟨h8, setCells_below HLG.out.1 _ _ _ (((HBK.out y4 HB4.out).2.2.2).mono HLG.out.2)⟩
    clear hbk4 hy4 c3 hr3
    refine wp_store_mid tTa _ _ rfl g (k * 12) CG.toArray (by rfl) (by rfl) hth hiG (all_oneCell_toArray hoG) ?_
    go_wp2_with fail
    go_ret
    exact ⟨rfl, HFIN.out⟩
  · obtain ⟨V, hV⟩ : ∃ V, z2.setCells z1.heap.size 0 CG = V := ⟨_, rfl⟩
    obtain ⟨bl, hbl⟩ : ∃ bl, z1.heap.size = bl := ⟨_, rfl⟩
    have h9 := HV2.out
    rw [hV, hbl] at h9
    rw [hV, hbl]
    have HFV : Hid (Fi y2 G bl V) := h9
    have hr0 : V.rangeAt bl 0 CG := by have := h9.rng; rw [HCG.out] at this; exact this
    clear hV hbl h9
    clear HV2
    go_wp2_with (first
      | (refine wpList_load_mid rfl tTa _ rfl bl 0 (by rfl) CG _ hr0 hu rfl hiG ?_)
      | fail)
    refine (HOV2.out _).mono ?_
    rintro e y3 ⟨rfl, hy3⟩
    have hf3 := HFV.out.below hy3
    have HB3 : Hid (Below y.heap.size y y3) := keepB HY2.out hf3.bel
    obtain ⟨hbk3, -, -, -⟩ := HBK.out y3 HB3.out
    have c3 := hbk3.cell
    have hr3 : y3.rangeAt bl 0 CG := by have := hf3.rng; rw [HCG.out] at this; exact this
    have l3 : b < y3.heap.size := World.block_lt_of_cell? _ _ c3
    have l4 : bl < y3.heap.size := World.block_lt_of_cell? _ _ (hr3 0 _ (List.getElem?_eq_getElem (by rw [HL12.out]; omega)))
    clear hf3 hbk3 hy3 hr0
    go_wp2_with fail
    refine Ql.region_lastL (C := Ql.Cl y3) (by kernel_rfl) rfl (by kernel_rfl) (by kernel_rfl) (by kernel_rfl) rfl ((Below.refl _ _).drew) ?_
    dsimp only [List.dropLast]
    repeat (first | go_big_quiet_skip | (go_big_quiet_want; go_big_quiet_op; first | go_big_quiet_on | (refine ⟨_, fun _ _ => rfl, ?_⟩; go_big_quiet_on) | (refine ⟨_, fun _ _ => ⟨rfl, rfl⟩, ?_⟩; go_big_quiet_on)) | (refine wpQuiet_step (fun K hK => ?_); first
      | (refine Ql.q_cell (by rfl) 54 _ rfl _ _ rfl _ c3 l3 (fun y => Tryd.isAgg54 y) (hK _ ?_); clear hK K; simp only [Act.put, List.setIfInBounds_toArray, List.set_cons_succ, List.set_cons_zero])
      | (refine q_mid (by rfl) tTa _ rfl _ _ rfl CG hr3 l4 _ hu rfl hiG (hK _ ?_); clear hK K; simp only [Act.put, List.setIfInBounds_toArray, List.set_cons_succ, List.set_cons_zero])
      | fail))
    refine wpQuiet_nil ?_
    intro y4 hy4
    have HB4 : Hid (Below y.heap.size y y4) := keepB HB3.out hy4
    have hbk4 := (HBK.out y4 HB4.out).1
    have hth : y4.there g (k * 12) CG.toArray.size := by rw [show CG.toArray.size = 12 from HL12.out]; exact (HROW.out y4 hbk4).2
    have HFIN : Hid (BkT (y4.setCells g (k * 12) CG.toArray.toList) base b g n (updF F k G) ∧ Below base x (y4.setCells g (k * 12) CG.toArray.toList)) := by
      have h8 := HST.out y4 G hbk4
      rw [HCG.out] at h8
      exact ⟨h8, setCells_below HLG.out.1 _ _ _ (((HBK.out y4 HB4.out).2.2.2).mono HLG.out.2)⟩
    clear hbk4 hy4 c3 hr3
    refine wp_store_mid tTa _ _ rfl g (k * 12) CG.toArray (by rfl) (by rfl) hth hiG (all_oneCell_toArray hoG) ?_
    go_wp2_with fail
    go_ret
    exact ⟨rfl, HFIN.out⟩
  · obtain ⟨V, hV⟩ : ∃ V, z2.setCells y2.heap.size 0 CG = V := ⟨_, rfl⟩
    obtain ⟨bl, hbl⟩ : ∃ bl, y2.heap.size = bl := ⟨_, rfl⟩
    have h9 := HV1.out
    rw [hV, hbl] at h9
    rw [hV, hbl]
    have HFV : Hid (Fi y2 G bl V) := h9
    have hr0 : V.rangeAt bl 0 CG := by have := h9.rng; rw [HCG.out] at this; exact this
    clear hV hbl h9
    clear HV1
    go_wp2_with (first
      | (refine wpList_load_mid rfl tTa _ rfl bl 0 (by rfl) CG _ hr0 hu rfl hiG ?_)
      | fail)
    refine (HOV2.out _).mono ?_
    rintro e y3 ⟨rfl, hy3⟩
    have hf3 := HFV.out.below hy3
    have HB3 : Hid (Below y.heap.size y y3) := keepB HY2.out hf3.bel
    obtain ⟨hbk3, -, -, -⟩ := HBK.out y3 HB3.out
    have c3 := hbk3.cell
    have hr3 : y3.rangeAt bl 0 CG := by have := hf3.rng; rw [HCG.out] at this; exact this
    have l3 : b < y3.heap.size := World.block_lt_of_cell? _ _ c3
    have l4 : bl < y3.heap.size := World.block_lt_of_cell? _ _ (hr3 0 _ (List.getElem?_eq_getElem (by rw [HL12.out]; omega)))
    clear hf3 hbk3 hy3 hr0
    go_wp2_with fail
    refine Ql.region_lastL (C := Ql.Cl y3) (by kernel_rfl) rfl (by kernel_rfl) (by kernel_rfl) (by kernel_rfl) rfl ((Below.refl _ _).drew) ?_
    dsimp only [List.dropLast]
    repeat (first | go_big_quiet_skip | (go_big_quiet_want; go_big_quiet_op; first | go_big_quiet_on | (refine ⟨_, fun _ _ => rfl, ?_⟩; go_big_quiet_on) | (refine ⟨_, fun _ _ => ⟨rfl, rfl⟩, ?_⟩; go_big_quiet_on)) | (refine wpQuiet_step (fun K hK => ?_); first
      | (refine Ql.q_cell (by rfl) 54 _ rfl _ _ rfl _ c3 l3 (fun y => Tryd.isAgg54 y) (hK _ ?_); clear hK K; simp only [Act.put, List.setIfInBounds_toArray, List.set_cons_succ, List.set_cons_zero])
      | (refine q_mid (by rfl) tTa _ rfl _ _ rfl CG hr3 l4 _ hu rfl hiG (hK _ ?_); clear hK K; simp only [Act.put, List.setIfInBounds_toArray, List.set_cons_succ, List.set_cons_zero])
      | fail))
    refine wpQuiet_nil ?_
    intro y4 hy4
    have HB4 : Hid (Below y.heap.size y y4) := keepB HB3.out hy4
    have hbk4 := (HBK.out y4 HB4.out).1
    have hth : y4.there g (k * 12) CG.toArray.size := by rw [show CG.toArray.size = 12 from HL12.out]; exact (HROW.out y4 hbk4).2
    have HFIN : Hid (BkT (y4.setCells g (k * 12) CG.toArray.toList) base b g n (updF F k G) ∧ Below base x (y4.setCells g (k * 12) CG.toArray.toList)) := by
      have h8 := HST.out y4 G hbk4
      rw [HCG.out] at h8
      exact ⟨h8, setCells_below HLG.out.1 _ _ _ (((HBK.out y4 HB4.out).2.2.2).mono HLG.out.2)⟩
    clear hbk4 hy4 c3 hr3
    refine wp_store_mid tTa _ _ rfl g (k * 12) CG.toArray (by rfl) (by rfl) hth hiG (all_oneCell_toArray hoG) ?_
    go_wp2_with fail
    go_ret
    exact ⟨rfl, HFIN.out⟩
end Go.Proofs.YteaanenhefbkjaaDoor.Tn
