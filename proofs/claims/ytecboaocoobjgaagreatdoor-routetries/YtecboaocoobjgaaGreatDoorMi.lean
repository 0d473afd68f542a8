/- A trie with something laid under a prefix, or nothing there any more: nodes of int. -/
import Derived.Test.YtecboaocoobjgaaGreatDoorLi
import Derived.BigQuiet
import Derived.Deep.RegionWith
namespace Go.Proofs.YtecboaocoobjgaaGreatDoor.Mi
set_option linter.unusedVariables false
set_option linter.unusedSimpArgs false
open Go.RowKit Lib0 Kb Rp Rw Rs Li
/-- a node with nothing in it -/
def zb (l k0 k1 k2 k3 k4 k5 k6 k7 k8 k9 : Option Addr) : Bool := l.isNone && k0.isNone && k1.isNone && k2.isNone && k3.isNone && k4.isNone && k5.isNone && k6.isNone && k7.isNone && k8.isNone && k9.isNone
abbrev row11 (l k0 k1 k2 k3 k4 k5 k6 k7 k8 k9 : Option Addr) : Array Value := #[.pointer l, .pointer k0, .pointer k1, .pointer k2, .pointer k3, .pointer k4, .pointer k5, .pointer k6, .pointer k7, .pointer k8, .pointer k9]
set_option maxRecDepth 100000 in
theorem eq_zero (l k0 k1 k2 k3 k4 k5 k6 k7 k8 k9 : Option Addr) (y : World) : (binOp .eql tN (.agg #[.pointer l, .pointer k0, .pointer k1, .pointer k2, .pointer k3, .pointer k4, .pointer k5, .pointer k6, .pointer k7, .pointer k8, .pointer k9]) (.agg #[.pointer none, .pointer none, .pointer none, .pointer none, .pointer none, .pointer none, .pointer none, .pointer none, .pointer none, .pointer none, .pointer none])).run Tryz.prog y = .ok (.bool (zb l k0 k1 k2 k3 k4 k5 k6 k7 k8 k9)) y := by
  cases l with
  | some a => kernel_rfl
  | none =>
    cases k0 with
    | some a => kernel_rfl
    | none =>
      cases k1 with
      | some a => kernel_rfl
      | none =>
        cases k2 with
        | some a => kernel_rfl
        | none =>
          cases k3 with
          | some a => kernel_rfl
          | none =>
            cases k4 with
            | some a => kernel_rfl
            | none =>
              cases k5 with
              | some a => kernel_rfl
              | none =>
                cases k6 with
                | some a => kernel_rfl
                | none =>
                  cases k7 with
                  | some a => kernel_rfl
                  | none =>
                    cases k8 with
                    | some a => kernel_rfl
                    | none =>
                      cases k9 with
                      | some a => kernel_rfl
                      | none =>
                        kernel_rfl

theorem cells11 {y : World} {g : Nat} {lv : Option (Nat × Value)} {kids : Fin 10 → Tn} (h : y.heap[g]? = some (.cells (rowV lv kids) tN)) : y.cell? ⟨g, 0, none⟩ = some (.pointer (la lv)) ∧ y.cell? ⟨g, 1, none⟩ = some (.pointer (pa (kids 0))) ∧ y.cell? ⟨g, 2, none⟩ = some (.pointer (pa (kids 1))) ∧ y.cell? ⟨g, 3, none⟩ = some (.pointer (pa (kids 2))) ∧ y.cell? ⟨g, 4, none⟩ = some (.pointer (pa (kids 3))) ∧ y.cell? ⟨g, 5, none⟩ = some (.pointer (pa (kids 4))) ∧ y.cell? ⟨g, 6, none⟩ = some (.pointer (pa (kids 5))) ∧ y.cell? ⟨g, 7, none⟩ = some (.pointer (pa (kids 6))) ∧ y.cell? ⟨g, 8, none⟩ = some (.pointer (pa (kids 7))) ∧ y.cell? ⟨g, 9, none⟩ = some (.pointer (pa (kids 8))) ∧ y.cell? ⟨g, 10, none⟩ = some (.pointer (pa (kids 9))) := by
  refine ⟨?_, ?_, ?_, ?_, ?_, ?_, ?_, ?_, ?_, ?_, ?_⟩ <;> simp [World.cell?, h, rowV]
theorem froz {y : World} {g : Nat} {c : Array Value} {t : TypeId} (h : y.heap[g]? = some (.cells c t)) (o : Nat) : y.frozen? ⟨g, o, none⟩ = false := by
  unfold World.frozen?; rw [h]; simp
abbrev zk (lv : Option (Nat × Value)) (kids : Fin 10 → Tn) : Bool := zb (la lv) (pa (kids 0)) (pa (kids 1)) (pa (kids 2)) (pa (kids 3)) (pa (kids 4)) (pa (kids 5)) (pa (kids 6)) (pa (kids 7)) (pa (kids 8)) (pa (kids 9))
theorem la_none {lv : Option (Nat × Value)} (h : (la lv).isNone = true) : lv = none := by
  cases lv with
  | none => rfl
  | some x => obtain ⟨a, b⟩ := x; cases h
theorem pa_none {T : Tn} (h : (pa T).isNone = true) : T = .nil := by
  cases T with
  | nil => rfl
  | nd => cases h
theorem zk_true {lv : Option (Nat × Value)} {kids : Fin 10 → Tn} (h : zk lv kids = true) (b : Nat) (k : K) : (Tn.nd b lv kids).mp k = none := by
  simp only [zk, zb, Bool.and_eq_true] at h
  obtain ⟨⟨⟨⟨⟨⟨⟨⟨⟨⟨h, h0⟩, h1⟩, h2⟩, h3⟩, h4⟩, h5⟩, h6⟩, h7⟩, h8⟩, h9⟩ := h
  cases k with
  | nil => rw [la_none h]; rfl
  | cons c k =>
    cases hc : isD c
    · exact mp_not _ _ _ _ _ hc
    · obtain ⟨d, rfl⟩ := dgt_of c hc
      rw [mp_cons]
      have hk : kids d = .nil := by
        obtain ⟨d, hd⟩ := d
        match d, hd with
        | 0, _ => exact pa_none h0
        | 1, _ => exact pa_none h1
        | 2, _ => exact pa_none h2
        | 3, _ => exact pa_none h3
        | 4, _ => exact pa_none h4
        | 5, _ => exact pa_none h5
        | 6, _ => exact pa_none h6
        | 7, _ => exact pa_none h7
        | 8, _ => exact pa_none h8
        | 9, _ => exact pa_none h9
      rw [hk]; exact mp_nil k
def lvOf : Tn → Option (Nat × Value)
  | .nil => none
  | .nd _ lv _ => lv
def kidsOf : Tn → Fin 10 → Tn
  | .nil => fun _ => .nil
  | .nd _ _ kids => kids
theorem mp_of (T : Tn) (b : Nat) (k : K) : (Tn.nd b (lvOf T) (kidsOf T)).mp k = T.mp k := by
  cases T with
  | nil =>
    rw [mp_nil]
    cases k with
    | nil => rfl
    | cons c k =>
      cases hc : isD c
      · exact mp_not _ _ _ _ _ hc
      · obtain ⟨d, rfl⟩ := dgt_of c hc
        rw [mp_cons]; exact mp_nil k
  | nd b' lv kids =>
    cases k with
    | nil => rfl
    | cons c k => rfl
theorem lay_of {w : World} {X : List Nat} {T : Tn} (h : InT w X T) : Lay tT w X (lvOf T) ∧ ∀ d, InT w X (kidsOf T d) := by
  cases T with
  | nil => exact ⟨Lay.none _ _ _, fun _ => trivial⟩
  | nd b lv kids => exact ⟨h.2.2.1, h.2.2.2⟩
theorem mp_laid (T : Tn) (g : Nat) (th : Option (Nat × Value)) (k : K) : (Tn.nd g th (kidsOf T)).mp k = upd T.mp [] (th.map (·.2)) k := by
  unfold upd
  cases k with
  | nil => rfl
  | cons c k => rw [if_neg (by simp), ← mp_of T g]; rfl
theorem mp_kid (T T2 : Tn) (g : Nat) (d : Fin 10) (r : K) (v : Option Value) (h : ∀ q, T2.mp q = upd (kidsOf T d).mp r v q) (k : K) : (Tn.nd g (lvOf T) (fun e => if e = d then T2 else kidsOf T e)).mp k = upd T.mp (dgt d :: r) v k := by
  unfold upd
  rw [← mp_of T g]
  cases k with
  | nil => rw [if_neg (by simp)]; rfl
  | cons c k =>
    cases hc : isD c
    · rw [mp_not _ _ _ _ _ hc, mp_not _ _ _ _ _ hc, if_neg]
      intro e
      simp only [List.cons.injEq] at e
      rw [e.1, dgt_isD] at hc; cases hc
    · obtain ⟨d', rfl⟩ := dgt_of c hc
      rw [mp_cons, mp_cons]
      by_cases e : d' = d
      · subst e
        rw [if_pos rfl, h]
        simp [upd]
      · rw [if_neg e, if_neg]
        intro e2
        simp only [List.cons.injEq] at e2
        exact e (dgt_inj e2.1)
/-- what the new node is -/
theorem made {y : World} {X : List Nat} {g : Nat} {lv : Option (Nat × Value)} {kids : Fin 10 → Tn} (h : y.heap[g]? = some (.cells (rowV lv kids) tN)) (hg : g ∉ X) (hl : Lay tT y X lv) (hk : ∀ d, InT y X (kids d)) : InT y X (.nd g lv kids) := ⟨hg, h, hl, hk⟩
theorem hzero : (Obj.cells #[.pointer none, .pointer none, .pointer none, .pointer none, .pointer none, .pointer none, .pointer none, .pointer none, .pointer none, .pointer none, .pointer none] tN) = .cells (rowV none fun _ => .nil) tN := rfl
def PostW (X : List Nat) (T : Tn) (s : K) (th : Option (Nat × Value)) (w : World) (e : Ending) (w' : World) : Prop := ∃ T', e = .returned (ptr T') ∧ InT w' X T' ∧ (∀ k, T'.mp k = upd T.mp s (th.map (·.2)) k) ∧ Below w.heap.size w w'
set_option maxRecDepth 100000 in
set_option maxHeartbeats 1600000 in
theorem with_here (T : Tn) (w : World) (X : List Nat) (th : Option (Nat × Value)) (hT : InT w X T) (hth : Lay tT w X th) (hX : ∀ x ∈ X, x < w.heap.size) :
    Calls Tryz.prog 24 #[ptr T, .string ⟨#[]⟩, lptr th] w (PostW X T [] th w) := by
  have HG : Hid (w.heap.size ∉ X) := fun h => Nat.lt_irrefl _ (hX _ h)
  have HK : Hid (∀ d, InT w X (kidsOf T d)) := (lay_of hT).2
  have HL : Hid (Lay tT w X th) := hth
  have HM : Hid (∀ g k, (Tn.nd g th (kidsOf T)).mp k = upd T.mp [] (th.map (·.2)) k) := fun g k => mp_laid T g th k
  obtain ⟨kids, hkd⟩ : ∃ kids, kids = kidsOf T := ⟨_, rfl⟩
  rw [← hkd] at HK HM
  have fin : ∀ Y, Below w.heap.size w Y → Lay tT Y X th ∧ ∀ d, InT Y X (kids d) := fun Y hY => ⟨HL.out.kept (KT.of hY), fun d => In.kept (KT.of hY) _ (HK.out d)⟩
  simp only [lptr, ptr]
  have NEW : ∀ (o : Obj), o = .cells (rowV th kids) tN → (w.alloc o).heap[w.heap.size]? = some (.cells (rowV th kids) tN) := fun o e => by rw [← e]; exact h1_0 w o
  cases T with
  | nil =>
    simp only [pa]
    subst hkd
    have EZ := eq_zero (la th) none none none none none none none none none none
    cases hz : zb (la th) none none none none none none none none none none with
    | true =>
      rw [hz] at EZ
      have HZ : Hid (zk th (kidsOf .nil) = true) := hz
      clear hz
      go_enter Tryz.func24, Tryz.ntmps24
      go_wp2_with fail
      go_ret
      exact ⟨.nil, rfl, trivial, fun k => by rw [mp_nil, ← HM.out 0, zk_true HZ.out], (below_one _ _)⟩
    | false =>
      rw [hz] at EZ
      clear hz
      go_enter Tryz.func24, Tryz.ntmps24
      go_wp2_with fail
      go_ret
      exact ⟨.nd w.heap.size th (kidsOf .nil), rfl, made (h1_0 w _) HG.out (fin _ (below_one _ _)).1 (fin _ (below_one _ _)).2, HM.out _, (below_one _ _)⟩

  | nd b lv kids0 =>
    simp only [pa]
    obtain rfl : kids = kids0 := hkd
    obtain ⟨c0, c1, c2, c3, c4, c5, c6, c7, c8, c9, c10⟩ := cells11 (kept (below_one w (.cells #[.pointer none, .pointer none, .pointer none, .pointer none, .pointer none, .pointer none, .pointer none, .pointer none, .pointer none, .pointer none, .pointer none] tN)) hT.2.1)
    have EZ := eq_zero (la th) (pa (kids 0)) (pa (kids 1)) (pa (kids 2)) (pa (kids 3)) (pa (kids 4)) (pa (kids 5)) (pa (kids 6)) (pa (kids 7)) (pa (kids 8)) (pa (kids 9))
    cases hz : zb (la th) (pa (kids 0)) (pa (kids 1)) (pa (kids 2)) (pa (kids 3)) (pa (kids 4)) (pa (kids 5)) (pa (kids 6)) (pa (kids 7)) (pa (kids 8)) (pa (kids 9)) with
    | true =>
      rw [hz] at EZ
      have HZ : Hid (zk th kids = true) := hz
      clear hz
      go_enter Tryz.func24, Tryz.ntmps24
      go_wp2_with fail
      go_ret
      exact ⟨.nil, rfl, trivial, fun k => by rw [mp_nil, ← HM.out 0, zk_true HZ.out], (below_one _ _)⟩
    | false =>
      rw [hz] at EZ
      clear hz
      go_enter Tryz.func24, Tryz.ntmps24
      go_wp2_with fail
      go_ret
      exact ⟨.nd w.heap.size th kids, rfl, made (h1_0 w _) HG.out (fin _ (below_one _ _)).1 (fin _ (below_one _ _)).2, HM.out _, (below_one _ _)⟩

theorem ext_tail (s : ByteArray) (c : UInt8) (r : K) (h : s.data.toList = c :: r) : (s.extract 1 s.size).data.toList = r ∧ (s.extract 1 s.size).size + 1 = s.size := by
  have hs : s.size = r.length + 1 := by
    have : s.data.toList.length = s.size := by rw [Array.length_toList]; rfl
    rw [← this, h]; rfl
  have e : (s.extract 1 s.size).data.toList = r := by
    simp [ByteArray.data_extract, h]
    rw [hs]; simp
  refine ⟨e, ?_⟩
  have : (s.extract 1 s.size).data.toList.length = (s.extract 1 s.size).size := by rw [Array.length_toList]; rfl
  rw [← this, e, hs]
theorem kid_cell {u y : World} {g : Nat} {lv : Option (Nat × Value)} {kids : Fin 10 → Tn} (h : Below u.heap.size u y) (hu : u.heap[g]? = some (.cells (rowV lv kids) tN)) (d : Fin 10) : y.heap[g]? = some (.cells (rowV lv kids) tN) ∧ y.cell? ⟨g, 1 + d.1, none⟩ = some (ptr (kids d)) ∧ y.frozen? ⟨g, 1 + d.1, none⟩ = false := by
  have hy := kept h hu
  refine ⟨hy, ?_, froz hy _⟩
  simp only [World.cell?, hy]
  exact rowV_kid lv kids d
set_option maxRecDepth 100000 in
set_option maxHeartbeats 1600000 in
theorem with_any : ∀ (r : K) (s : ByteArray), s.data.toList = r → r.all isD = true → ∀ (T : Tn) (w : World) (X : List Nat) (th : Option (Nat × Value)) (hT : InT w X T) (hth : Lay tT w X th) (hX : ∀ x ∈ X, x < w.heap.size),
    Calls Tryz.prog 24 #[ptr T, .string s, lptr th] w (PostW X T r th w) := by
  intro r
  induction r with
  | nil =>
    intro s hs _ T w X th hT hth hX
    obtain rfl : s = ⟨#[]⟩ := by cases s; simp at hs; simp [hs]
    exact with_here T w X th hT hth hX
  | cons c r ih =>
    intro s hs hall T w X th hT hth hX
    simp only [List.all_cons, Bool.and_eq_true] at hall
    obtain ⟨d, ed⟩ := dgt_of c hall.1
    obtain ⟨e1, e2⟩ := ext_tail s c r hs
    have IH := ih (s.extract 1 s.size) e1 hall.2
    have q0 : 0 < s.size := by omega
    have hn : (s[0]'q0).toNat = 48 + d.1 := by
      have : s[0]'q0 = c := by
        have h2 : s.data.toList[0]? = some c := by rw [hs]; rfl
        have h3 : s.data.toList[0]? = some (s[0]'q0) := by
          rw [Array.getElem?_toList, Array.getElem?_eq_getElem (h := q0)]; rfl
        rw [h2] at h3; exact (Option.some.inj h3).symm
      rw [this, ed]; exact dgt_nat d
    have q1 : (1 : Int) ≤ (s.size : Int) := by omega
    have q2 : (0 : Int) < (s.size : Int) := by omega
    have r1 : IntKind.u8.wrap (((s[0]'q0).toNat : Int) - 48) = (d.1 : Int) := by
      rw [hn]
      have := d.2
      rw [wrap_u8 _ (by omega) (by omega)]; omega
    have r2 : (d.1 : Int) < 10 := by have := d.2; omega
    have r3 : d.1 < 10 := d.2
    have r4 : s.toList.isEmpty = false := by
      have e : s.toList = s.data.toList := ByteArray.toList_eq s
      rw [e, hs]; rfl
    have HG : Hid (w.heap.size ∉ X) := fun h => Nat.lt_irrefl _ (hX _ h)
    cases T with
    | nil =>
      simp only [lptr, ptr, pa]
      have HI : Hid (∀ (y : World), w.heap.size < y.heap.size → Below w.heap.size w y → Calls Tryz.prog 24 #[.pointer none, .string (s.extract 1 s.size), .pointer (la th)] y (PostW (w.heap.size :: X) .nil r th y)) := fun y hg hy => IH .nil y (w.heap.size :: X) th trivial (((hth.more fun b hb => (List.mem_cons.1 hb).elim (fun e => .inr (by omega)) .inl).kept (KT.of hy))) (fun x hx => (List.mem_cons.1 hx).elim (fun e => by omega) fun hx => Nat.lt_of_lt_of_le (hX x hx) hy.size)
      have ck : (w.alloc (.cells #[.pointer none, .pointer none, .pointer none, .pointer none, .pointer none, .pointer none, .pointer none, .pointer none, .pointer none, .pointer none, .pointer none] tN)).cell? ⟨w.heap.size, 1 + d.1, none⟩ = some (.pointer none) := by
        simp only [World.cell?, h1_0]
        exact rowV_kid none (fun _ => .nil) d
      clear hn IH ih e1 e2 hs hall
      go_enter Tryz.func24, Tryz.ntmps24
      go_wp2_with fail
      go_region_with (go_at_call 24; refine (HI.out _ (by show w.heap.size < (w.heap.push _).size; simp) ((below_one _ _).drew)).mono ?_; rintro e y ⟨T2, rfl, hi2, hm2, hb2⟩; obtain ⟨zy, cy, fy⟩ := kid_cell (kids := fun _ => .nil) (lv := none) hb2 (h1_0 w _) d; simp only [ptr])
      obtain ⟨kids2, hk2⟩ : ∃ kids2 : Fin 10 → Tn, kids2 = fun e => if e = d then T2 else (fun _ => Tn.nil) e := ⟨_, rfl⟩
      have hY : (y.setCell ⟨w.heap.size, 1 + d.1, none⟩ (.pointer (pa T2))).heap[w.heap.size]? = some (.cells (rowV none kids2) tN) := by
        rw [setCell_heap zy, hk2]
        exact congrArg (fun c => some (Obj.cells c tN (0, 0))) (rowV_setKid none (fun _ => Tn.nil) d T2)
      have HB : Hid (Below w.heap.size w (y.setCell ⟨w.heap.size, 1 + d.1, none⟩ (.pointer (pa T2)))) := Below.setCell (p := ⟨w.heap.size, 1 + d.1, none⟩) (((below_one w _).drew).trans (hb2.mono (((below_one w _).drew)).size)) (Nat.le_refl _) _
      have hi3 : InT (y.setCell ⟨w.heap.size, 1 + d.1, none⟩ (.pointer (pa T2))) X T2 := In.more (fun b hb => .inl (List.mem_cons_of_mem _ hb)) _ (In.kept (KT.set (by simp) _ _) _ hi2)
      have HM : Hid (∀ k, (Tn.nd w.heap.size none kids2).mp k = upd (Tn.nil).mp (c :: r) (th.map (·.2)) k) := fun k => by
        rw [hk2, ed]
        exact mp_kid Tn.nil T2 w.heap.size d r _ hm2 k
      generalize y.setCell ⟨w.heap.size, 1 + d.1, none⟩ (.pointer (pa T2)) = Y at *
      have HY : Hid (InT Y X (.nd w.heap.size none kids2)) := made hY HG.out (Lay.kept (lay_of hT).1 (KT.of HB.out)) (fun e => by
        rw [hk2]
        by_cases he : e = d
        · simp only [he, if_true]; exact hi3
        · simp only [if_neg he]; exact In.kept (KT.of HB.out) _ ((lay_of hT).2 e))
      obtain ⟨c0, c1, c2, c3, c4, c5, c6, c7, c8, c9, c10⟩ := cells11 hY
      have EZ := eq_zero (la none) (pa (kids2 0)) (pa (kids2 1)) (pa (kids2 2)) (pa (kids2 3)) (pa (kids2 4)) (pa (kids2 5)) (pa (kids2 6)) (pa (kids2 7)) (pa (kids2 8)) (pa (kids2 9))
      clear hk2 hi3 hY hm2 hb2 zy cy fy hi2 ck
      cases hz : zb (la none) (pa (kids2 0)) (pa (kids2 1)) (pa (kids2 2)) (pa (kids2 3)) (pa (kids2 4)) (pa (kids2 5)) (pa (kids2 6)) (pa (kids2 7)) (pa (kids2 8)) (pa (kids2 9)) with
      | true =>
        rw [hz] at EZ
        have HZ : Hid (zk none kids2 = true) := hz
        clear hz
        go_wp2_with fail
        go_ret
        exact ⟨.nil, rfl, trivial, fun k => by rw [mp_nil, ← HM.out, zk_true HZ.out], HB.out⟩
      | false =>
        rw [hz] at EZ
        clear hz
        go_wp2_with fail
        go_ret
        exact ⟨.nd w.heap.size none kids2, rfl, HY.out, HM.out, HB.out⟩
    | nd b lv kids =>
      simp only [lptr, ptr, pa]
      have HI : Hid (∀ (y : World), w.heap.size < y.heap.size → Below w.heap.size w y → Calls Tryz.prog 24 #[.pointer (pa (kids d)), .string (s.extract 1 s.size), .pointer (la th)] y (PostW (w.heap.size :: X) (kids d) r th y)) := fun y hg hy => IH (kids d) y (w.heap.size :: X) th (In.kept (KT.of hy) _ (In.more (fun b hb => (List.mem_cons.1 hb).elim (fun e => .inr (by omega)) .inl) _ (hT.2.2.2 d))) (((hth.more fun b hb => (List.mem_cons.1 hb).elim (fun e => .inr (by omega)) .inl).kept (KT.of hy))) (fun x hx => (List.mem_cons.1 hx).elim (fun e => by omega) fun hx => Nat.lt_of_lt_of_le (hX x hx) hy.size)
      have ck : (w.alloc (.cells (rowV lv kids) tN)).cell? ⟨w.heap.size, 1 + d.1, none⟩ = some (.pointer (pa (kids d))) := by
        simp only [World.cell?, h1_0]
        exact rowV_kid lv kids d
      simp only [rowV, lptr, ptr] at ck
      obtain ⟨c0, c1, c2, c3, c4, c5, c6, c7, c8, c9, c10⟩ := cells11 (kept (below_one w (.cells #[.pointer none, .pointer none, .pointer none, .pointer none, .pointer none, .pointer none, .pointer none, .pointer none, .pointer none, .pointer none, .pointer none] tN)) hT.2.1)
      clear hn IH ih e1 e2 hs hall
      go_enter Tryz.func24, Tryz.ntmps24
      go_wp2_with fail
      clear c0 c1 c2 c3 c4 c5 c6 c7 c8 c9 c10
      go_region_with (go_at_call 24; refine (HI.out _ (by show w.heap.size < (w.heap.push _).size; simp) ((below_one _ _).drew)).mono ?_; rintro e y ⟨T2, rfl, hi2, hm2, hb2⟩; obtain ⟨zy, cy, fy⟩ := kid_cell (kids := kids) (lv := lv) hb2 (h1_0 w _) d; simp only [ptr])
      obtain ⟨kids2, hk2⟩ : ∃ kids2 : Fin 10 → Tn, kids2 = fun e => if e = d then T2 else kids e := ⟨_, rfl⟩
      have hY : (y.setCell ⟨w.heap.size, 1 + d.1, none⟩ (.pointer (pa T2))).heap[w.heap.size]? = some (.cells (rowV lv kids2) tN) := by
        rw [setCell_heap zy, hk2]
        exact congrArg (fun c => some (Obj.cells c tN (0, 0))) (rowV_setKid lv kids d T2)
      have HB : Hid (Below w.heap.size w (y.setCell ⟨w.heap.size, 1 + d.1, none⟩ (.pointer (pa T2)))) := Below.setCell (p := ⟨w.heap.size, 1 + d.1, none⟩) (((below_one w _).drew).trans (hb2.mono (((below_one w _).drew)).size)) (Nat.le_refl _) _
      have hi3 : InT (y.setCell ⟨w.heap.size, 1 + d.1, none⟩ (.pointer (pa T2))) X T2 := In.more (fun b hb => .inl (List.mem_cons_of_mem _ hb)) _ (In.kept (KT.set (by simp) _ _) _ hi2)
      have HM : Hid (∀ k, (Tn.nd w.heap.size lv kids2).mp k = upd ((Tn.nd b lv kids)).mp (c :: r) (th.map (·.2)) k) := fun k => by
        rw [hk2, ed]
        exact mp_kid (Tn.nd b lv kids) T2 w.heap.size d r _ hm2 k
      generalize y.setCell ⟨w.heap.size, 1 + d.1, none⟩ (.pointer (pa T2)) = Y at *
      have HY : Hid (InT Y X (.nd w.heap.size lv kids2)) := made hY HG.out (Lay.kept (lay_of hT).1 (KT.of HB.out)) (fun e => by
        rw [hk2]
        by_cases he : e = d
        · simp only [he, if_true]; exact hi3
        · simp only [if_neg he]; exact In.kept (KT.of HB.out) _ ((lay_of hT).2 e))
      obtain ⟨c0, c1, c2, c3, c4, c5, c6, c7, c8, c9, c10⟩ := cells11 hY
      have EZ := eq_zero (la lv) (pa (kids2 0)) (pa (kids2 1)) (pa (kids2 2)) (pa (kids2 3)) (pa (kids2 4)) (pa (kids2 5)) (pa (kids2 6)) (pa (kids2 7)) (pa (kids2 8)) (pa (kids2 9))
      clear hk2 hi3 hY hm2 hb2 zy cy fy hi2 ck
      cases hz : zb (la lv) (pa (kids2 0)) (pa (kids2 1)) (pa (kids2 2)) (pa (kids2 3)) (pa (kids2 4)) (pa (kids2 5)) (pa (kids2 6)) (pa (kids2 7)) (pa (kids2 8)) (pa (kids2 9)) with
      | true =>
        rw [hz] at EZ
        have HZ : Hid (zk lv kids2 = true) := hz
        clear hz
        go_wp2_with fail
        go_ret
        exact ⟨.nil, rfl, trivial, fun k => by rw [mp_nil, ← HM.out, zk_true HZ.out], HB.out⟩
      | false =>
        rw [hz] at EZ
        clear hz
        go_wp2_with fail
        go_ret
        exact ⟨.nd w.heap.size lv kids2, rfl, HY.out, HM.out, HB.out⟩
end Go.Proofs.YtecboaocoobjgaaGreatDoor.Mi
