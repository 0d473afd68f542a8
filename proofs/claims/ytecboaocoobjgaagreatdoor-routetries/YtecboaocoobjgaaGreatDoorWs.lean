/- RouteTries: one step. -/
import Derived.Test.YtecboaocoobjgaaGreatDoorWd
import Derived.Test.YtecboaocoobjgaaGreatDoorSq
namespace Go.Proofs.YtecboaocoobjgaaGreatDoor.Ws
set_option linter.unusedVariables false
set_option linter.unusedSimpArgs false
open Go.RowKit Go.Shelf Lib0 Kb Rp Rw Rs Li Mj Tj Kq Ra Da Db Dc Dd De Wd
structure Stp where
  kind : Int
  on : Int
  pr : ByteArray
  v : Int
  leave : Int
  inn : Int
  oth : ByteArray
def Stp.cs (o : Stp) : Array Value := #[.int .i64 o.kind, .int .i64 o.on, .string o.pr, .int .i64 o.v, .int .i64 o.leave, .int .i64 o.inn, .string o.oth]
abbrev tO : TypeId := 41
theorem Wd.cells {w y : World} {X : List Nat} {W : Nat} {t r u : Nat → Nat} {L : Nat → LT} (h : Wd w y X W t r u L) (k : Nat) (hk : k < 2) : y.cell? ⟨W, k, none⟩ = some (.pointer (some ⟨t k, 0, none⟩)) ∧ y.cell? ⟨W, 2 + k, none⟩ = some (.pointer (some ⟨r k, 0, none⟩)) ∧ y.cell? ⟨W, 4 + k, none⟩ = some (fvA (u k)) := by
  have : k = 0 ∨ k = 1 := by omega
  rcases this with rfl | rfl <;> simp [World.cell?, h.blk, pA]
section
variable {w z x : World} {X : List Nat} {W : Nat} {t r u : Nat → Nat} {L : Nat → LT} {k : Nat} {L' : LT}
theorem md_kx (h : Md w z x X W t r u L k L') {b : Nat} {c : Array Value} {s : TypeId} (e : z.heap[b]? = some (.cells c s)) (n : s ≠ tR) : x.heap[b]? = some (.cells c s) := by
  obtain ⟨T, h1, _⟩ := (h.wd.tri k h.hk).tree
  exact (h.fr.block _ (Array.getElem?_eq_some_iff.1 e).1 (by simpa using blk_ne e h1 n)).trans e
def rP (L : LT) (s : ByteArray) : Int := if putE L s.data.toList then 0 else 150
def dl (L : LT) (s : ByteArray) : LT := if isAt L s.data.toList then del L s.data.toList else L
theorem put_first (h : Wd w z X W t r u L) (hk : k < 2) (s : ByteArray) (v : Int) (hs : s.size ≤ maxLen) (hL : (L k).length ≤ 900000) :
    Calls Tryz.prog 8 #[.pointer (some ⟨t k, 0, none⟩), .string s, .int .i64 v] z fun e x => e = .returned (.int .i64 (rP (L k) s)) ∧ Md w z x X W t r u L k (putL (L k) s.data.toList v) := by
  refine (put_any _ X (t k) (L k) s v (h.tri k hk) hs (by omega)).mono ?_
  rintro e x ⟨rfl, a, b⟩
  exact ⟨rfl, h, hk, b, a⟩
theorem drop_first (h : Wd w z X W t r u L) (hk : k < 2) (s : ByteArray) (hs : s.size ≤ maxLen) (hL : (L k).length ≤ 900000) :
    Calls Tryz.prog 16 #[.pointer (some ⟨t k, 0, none⟩), .string s] z fun e x => e = .returned (.bool (isAt (L k) s.data.toList)) ∧ Md w z x X W t r u L k (dl (L k) s) := by
  refine (drop_any _ X (t k) (L k) s (h.tri k hk) hs (by omega)).mono ?_
  rintro e x ⟨rfl, a, b⟩
  exact ⟨rfl, h, hk, b, a⟩
theorem put_second {s : ByteArray} {v : Int} (M : Md w z x X W t r u L k (putL (L k) s.data.toList v)) (hs : s.size ≤ maxLen) (hL : (L k).length ≤ 900000) :
    Calls Tryz.prog 15 #[.pointer (some ⟨r k, 0, none⟩), .string s, .int .i64 v] x fun e x' => e = .returned (.int .i64 (rP (L k) s)) ∧ Wd w x' X W t r u (fun j => if j = k then putL (L k) s.data.toList v else L j) ∧ (∀ (b : Nat) (c : Array Value) (q : TypeId), x.heap[b]? = some (.cells c q) → q ≠ tTr → x'.heap[b]? = some (.cells c q)) ∧ Fr [r k] x x' := by
  obtain ⟨v0, e1, e2, e3⟩ := M.row k M.hk
  refine (putr_any x (r k) v0 (L k) s v e1 e3 e2 (M.wd.tri k M.hk).srt (by omega) hs).mono ?_
  rintro e x' ⟨rfl, f, g⟩
  exact ⟨rfl, M.turn f g, fun b c q e n => (f.block _ (Array.getElem?_eq_some_iff.1 e).1 (by simpa using blk_ne e e1 n)).trans e, f⟩
theorem drop_second {s : ByteArray} (M : Md w z x X W t r u L k (dl (L k) s)) (hL : (L k).length ≤ 900000) :
    Calls Tryz.prog 17 #[.pointer (some ⟨r k, 0, none⟩), .string s] x fun e x' => e = .returned (.bool (isAt (L k) s.data.toList)) ∧ Wd w x' X W t r u (fun j => if j = k then dl (L k) s else L j) ∧ (∀ (b : Nat) (c : Array Value) (q : TypeId), x.heap[b]? = some (.cells c q) → q ≠ tTr → x'.heap[b]? = some (.cells c q)) ∧ Fr [r k] x x' := by
  obtain ⟨v0, e1, e2, e3⟩ := M.row k M.hk
  refine (dropr_any x (r k) v0 (L k) s e1 e3 e2 (M.wd.tri k M.hk).srt (by omega)).mono ?_
  rintro e x' ⟨rfl, f, g⟩
  exact ⟨rfl, M.turn f (by simpa [dl] using g), fun b c q e n => (f.block _ (Array.getElem?_eq_some_iff.1 e).1 (by simpa using blk_ne e e1 n)).trans e, f⟩
end
theorem find_form (L : LT) (s : ByteArray) : ∃ a n b, ∀ e, FindPost L s e → e = .returned (.tuple #[.int .i64 a, .int .i64 n, .bool b]) := by
  unfold FindPost
  cases lon (lkp L) s.data.toList s.size with
  | none => exact ⟨_, _, _, fun e h => h⟩
  | some x => exact ⟨_, _, _, fun e h => h⟩
set_option maxRecDepth 100000 in
set_option maxHeartbeats 3200000 in
theorem put2 {w y : World} {X : List Nat} {W : Nat} {t r u : Nat → Nat} {L : Nat → LT} (h : Wd w y X W t r u L) (o : Stp) (k : Nat) (hk : k < 2) (hon : ∀ x, Calls Tryz.prog 14 #[.int .i64 o.on, .int .i64 2] x fun e w' => e = .returned (.int .i64 (k : Int)) ∧ w' = x) (hkind : o.kind = 1) (hp : o.pr.size ≤ maxLen) (hL : (L k).length ≤ 900000) :
    Calls Tryz.prog 7 #[.pointer (some ⟨W, 0, none⟩), .agg o.cs] y fun e y' => e = .returned (.bool true) ∧ Wd w y' X W t r u (fun j => if j = k then putL (L k) o.pr.data.toList o.v else L j) := by
  obtain ⟨kind, on, pr, v, leave, inn, oth⟩ := o
  dsimp only at *
  subst hkind
  simp only [Stp.cs]
  have h0 := h.below (Kb.below_one y (.cells #[.int .i64 1, .int .i64 on, .string pr, .int .i64 v, .int .i64 leave, .int .i64 inn, .string oth] tO))
  obtain ⟨c0, c1, c2⟩ := Wd.cells h0 k hk
  go_enter Tryz.func7, Tryz.ntmps7
  go_wp2_with fail
  refine (hon _).mono ?_
  rintro e x ⟨rfl, hx⟩
  rw [hx]
  clear hx x
  have k0 : (0 : Int) ≤ (k : Int) := by omega
  have k1 : (k : Int) < 2 := by omega
  go_wp2_with fail
  obtain ⟨z, hz⟩ : ∃ z, y.alloc (.cells #[.int .i64 1, .int .i64 on, .string pr, .int .i64 v, .int .i64 leave, .int .i64 inn, .string oth] tO) = z := ⟨_, rfl⟩
  have hQ : z.heap[y.heap.size]? = some (.cells #[.int .i64 1, .int .i64 on, .string pr, .int .i64 v, .int .i64 leave, .int .i64 inn, .string oth] tO) := hz ▸ Kb.h1_0 y _
  rw [hz] at h0
  rw [hz]
  obtain ⟨Q, hQQ⟩ : ∃ Q, y.heap.size = Q := ⟨_, rfl⟩
  rw [hQQ] at hQ
  rw [hQQ]
  clear hz hQQ c0 c1 c2 hon h
  have h1 : Wd w z.drew X W t r u L := h0.below ((Below.refl _ z).drew)
  have hQ1 : z.drew.heap[Q]? = some (.cells #[.int .i64 1, .int .i64 on, .string pr, .int .i64 v, .int .i64 leave, .int .i64 inn, .string oth] tO) := hQ
  have c2 : z.drew.cell? ⟨Q, 2, none⟩ = some (.string pr) := by simp [World.cell?, hQ1]
  have c3 : z.drew.cell? ⟨Q, 3, none⟩ = some (.int .i64 v) := by simp [World.cell?, hQ1]
  have PA := put_first h1 hk pr v hp hL
  have PB := fun x (M : Md w z.drew x X W t r u L k (putL (L k) pr.data.toList v)) => put_second (x := x) (s := pr) (v := v) M hp hL
  have KQ1 : ∀ x L', Md w z.drew x X W t r u L k L' → x.heap[Q]? = some (.cells #[.int .i64 1, .int .i64 on, .string pr, .int .i64 v, .int .i64 leave, .int .i64 inn, .string oth] tO) := fun x L' M => md_kx M hQ1 (by decide)
  have CE : ∀ x : World, x.heap[Q]? = some (.cells #[.int .i64 1, .int .i64 on, .string pr, .int .i64 v, .int .i64 leave, .int .i64 inn, .string oth] tO) → x.cell? ⟨Q, 2, none⟩ = some (.string pr) ∧ x.cell? ⟨Q, 3, none⟩ = some (.int .i64 v) := fun x e => by constructor <;> simp [World.cell?, e]
  clear hQ hQ1 h0 h1
  go_region_held3 (fun x => x.cell? ⟨Q, 2, none⟩ = some (.string pr) ∧ x.cell? ⟨Q, 3, none⟩ = some (.int .i64 v)) (first | exact ⟨by assumption, by assumption⟩ | (go_keep; done)) (first
    | (go_at_call 8; refine PA.mono ?_; rintro e x ⟨rfl, M⟩; have hq := KQ1 x _ M; obtain ⟨d2, d3⟩ := CE x hq; have PC := PB x M; clear M)
    | (go_at_call 15; refine PC.mono ?_; rintro e x2 ⟨rfl, hW, hb, hf⟩; obtain ⟨d4, d5⟩ := CE x2 (hb _ _ _ hq (by decide)); clear hb hf))
  go_wp2_with fail
  go_ret
  exact ⟨by simp, hW⟩
set_option maxRecDepth 100000 in
set_option maxHeartbeats 3200000 in
theorem drop2 {w y : World} {X : List Nat} {W : Nat} {t r u : Nat → Nat} {L : Nat → LT} (h : Wd w y X W t r u L) (o : Stp) (k : Nat) (hk : k < 2) (hon : ∀ x, Calls Tryz.prog 14 #[.int .i64 o.on, .int .i64 2] x fun e w' => e = .returned (.int .i64 (k : Int)) ∧ w' = x) (hkind : o.kind = 2) (hp : o.pr.size ≤ maxLen) (hL : (L k).length ≤ 900000) :
    Calls Tryz.prog 7 #[.pointer (some ⟨W, 0, none⟩), .agg o.cs] y fun e y' => e = .returned (.bool true) ∧ Wd w y' X W t r u (fun j => if j = k then dl (L k) o.pr else L j) := by
  obtain ⟨kind, on, pr, v, leave, inn, oth⟩ := o
  dsimp only at *
  subst hkind
  simp only [Stp.cs]
  have h0 := h.below (Kb.below_one y (.cells #[.int .i64 2, .int .i64 on, .string pr, .int .i64 v, .int .i64 leave, .int .i64 inn, .string oth] tO))
  obtain ⟨c0, c1, c2⟩ := Wd.cells h0 k hk
  go_enter Tryz.func7, Tryz.ntmps7
  go_wp2_with fail
  refine (hon _).mono ?_
  rintro e x ⟨rfl, hx⟩
  rw [hx]
  clear hx x
  have k0 : (0 : Int) ≤ (k : Int) := by omega
  have k1 : (k : Int) < 2 := by omega
  go_wp2_with fail
  obtain ⟨z, hz⟩ : ∃ z, y.alloc (.cells #[.int .i64 2, .int .i64 on, .string pr, .int .i64 v, .int .i64 leave, .int .i64 inn, .string oth] tO) = z := ⟨_, rfl⟩
  have hQ : z.heap[y.heap.size]? = some (.cells #[.int .i64 2, .int .i64 on, .string pr, .int .i64 v, .int .i64 leave, .int .i64 inn, .string oth] tO) := hz ▸ Kb.h1_0 y _
  rw [hz] at h0
  rw [hz]
  obtain ⟨Q, hQQ⟩ : ∃ Q, y.heap.size = Q := ⟨_, rfl⟩
  rw [hQQ] at hQ
  rw [hQQ]
  clear hz hQQ c0 c1 c2 hon h
  have h1 : Wd w z.drew X W t r u L := h0.below ((Below.refl _ z).drew)
  have hQ1 : z.drew.heap[Q]? = some (.cells #[.int .i64 2, .int .i64 on, .string pr, .int .i64 v, .int .i64 leave, .int .i64 inn, .string oth] tO) := hQ
  have c2 : z.drew.cell? ⟨Q, 2, none⟩ = some (.string pr) := by simp [World.cell?, hQ1]
  have c3 : z.drew.cell? ⟨Q, 3, none⟩ = some (.int .i64 v) := by simp [World.cell?, hQ1]
  have PA := drop_first h1 hk pr hp hL
  have PB := fun x (M : Md w z.drew x X W t r u L k (dl (L k) pr)) => drop_second (x := x) (s := pr) M hL
  have KQ1 : ∀ x L', Md w z.drew x X W t r u L k L' → x.heap[Q]? = some (.cells #[.int .i64 2, .int .i64 on, .string pr, .int .i64 v, .int .i64 leave, .int .i64 inn, .string oth] tO) := fun x L' M => md_kx M hQ1 (by decide)
  have CE : ∀ x : World, x.heap[Q]? = some (.cells #[.int .i64 2, .int .i64 on, .string pr, .int .i64 v, .int .i64 leave, .int .i64 inn, .string oth] tO) → x.cell? ⟨Q, 2, none⟩ = some (.string pr) ∧ x.cell? ⟨Q, 3, none⟩ = some (.int .i64 v) := fun x e => by constructor <;> simp [World.cell?, e]
  clear hQ hQ1 h0 h1
  go_region_held3 (fun x => x.cell? ⟨Q, 2, none⟩ = some (.string pr) ∧ x.cell? ⟨Q, 3, none⟩ = some (.int .i64 v)) (first | exact ⟨by assumption, by assumption⟩ | (go_keep; done)) (first
    | (go_at_call 16; refine PA.mono ?_; rintro e x ⟨rfl, M⟩; have hq := KQ1 x _ M; obtain ⟨d2, d3⟩ := CE x hq; have PC := PB x M; clear M)
    | (go_at_call 17; refine PC.mono ?_; rintro e x2 ⟨rfl, hW, hb, hf⟩; obtain ⟨d4, d5⟩ := CE x2 (hb _ _ _ hq (by decide)); clear hb hf))
  go_wp2_with fail
  go_ret
  exact ⟨by simp, hW⟩
set_option maxRecDepth 100000 in
set_option maxHeartbeats 3200000 in
theorem find2 {w y : World} {X : List Nat} {W : Nat} {t r u : Nat → Nat} {L : Nat → LT} (h : Wd w y X W t r u L) (o : Stp) (k : Nat) (hk : k < 2) (hon : ∀ x, Calls Tryz.prog 14 #[.int .i64 o.on, .int .i64 2] x fun e w' => e = .returned (.int .i64 (k : Int)) ∧ w' = x) (hkind : o.kind = 3) (hp : o.pr.size ≤ maxLen) (hL : (L k).length ≤ 900000) :
    Calls Tryz.prog 7 #[.pointer (some ⟨W, 0, none⟩), .agg o.cs] y fun e y' => e = .returned (.bool true) ∧ Wd w y' X W t r u L := by
  obtain ⟨kind, on, pr, v, leave, inn, oth⟩ := o
  dsimp only at *
  subst hkind
  simp only [Stp.cs]
  have h0 := h.below (Kb.below_one y (.cells #[.int .i64 3, .int .i64 on, .string pr, .int .i64 v, .int .i64 leave, .int .i64 inn, .string oth] tO))
  obtain ⟨c0, c1, c2⟩ := Wd.cells h0 k hk
  go_enter Tryz.func7, Tryz.ntmps7
  go_wp2_with fail
  refine (hon _).mono ?_
  rintro e x ⟨rfl, hx⟩
  rw [hx]
  clear hx x
  have k0 : (0 : Int) ≤ (k : Int) := by omega
  have k1 : (k : Int) < 2 := by omega
  go_wp2_with fail
  obtain ⟨z, hz⟩ : ∃ z, y.alloc (.cells #[.int .i64 3, .int .i64 on, .string pr, .int .i64 v, .int .i64 leave, .int .i64 inn, .string oth] tO) = z := ⟨_, rfl⟩
  have hQ : z.heap[y.heap.size]? = some (.cells #[.int .i64 3, .int .i64 on, .string pr, .int .i64 v, .int .i64 leave, .int .i64 inn, .string oth] tO) := hz ▸ Kb.h1_0 y _
  rw [hz] at h0
  rw [hz]
  obtain ⟨Q, hQQ⟩ : ∃ Q, y.heap.size = Q := ⟨_, rfl⟩
  rw [hQQ] at hQ
  rw [hQQ]
  clear hz hQQ c0 c1 c2 hon h
  obtain ⟨fa, fn, fb, hF⟩ := find_form (L k) pr
  have c2 : z.cell? ⟨Q, 2, none⟩ = some (.string pr) := by simp [World.cell?, hQ]
  have HQ : Hid (z.heap[Q]? = some (.cells #[.int .i64 3, .int .i64 on, .string pr, .int .i64 v, .int .i64 leave, .int .i64 inn, .string oth] tO)) := hQ
  have H0 : Hid (Wd w z X W t r u L) := h0
  have HFF : Hid (∀ e, FindPost (L k) pr e → e = .returned (.tuple #[.int .i64 fa, .int .i64 fn, .bool fb])) := hF
  clear hQ h0 hF
  refine (find_any z X (t k) (L k) pr (H0.out.tri k hk) hp).mono ?_
  rintro e x ⟨hf, hb⟩
  obtain rfl := HFF.out e hf
  have H1 : Hid (Wd w x X W t r u L) := H0.out.below hb
  have hQ2 := kept hb HQ.out
  have c3 : x.cell? ⟨Q, 2, none⟩ = some (.string pr) := by simp [World.cell?, hQ2]
  obtain ⟨v0, e1, e2, e3⟩ := H1.out.row k hk
  have FR := findr_any x (r k) v0 (L k) pr (by simp [World.cell?, e1]) e3 (H1.out.tri k hk).srt (H1.out.tri k hk).keys hp
  clear hf hb c2 e1 e2 e3 hQ2
  go_wp2_with fail
  refine FR.mono ?_
  rintro e x2 ⟨hf, hb⟩
  obtain rfl := HFF.out e hf
  have H2 : Hid (Wd w x2 X W t r u L) := H1.out.below hb
  clear hf hb c3 FR HFF
  go_wp2_with fail
  go_ret
  exact ⟨rfl, H2.out⟩
set_option maxRecDepth 100000 in
set_option maxHeartbeats 3200000 in
theorem len2 {w y : World} {X : List Nat} {W : Nat} {t r u : Nat → Nat} {L : Nat → LT} (h : Wd w y X W t r u L) (o : Stp) (k : Nat) (hk : k < 2) (hon : ∀ x, Calls Tryz.prog 14 #[.int .i64 o.on, .int .i64 2] x fun e w' => e = .returned (.int .i64 (k : Int)) ∧ w' = x) (hkind : o.kind = 4) (hp : o.pr.size ≤ maxLen) (hL : (L k).length ≤ 900000) :
    Calls Tryz.prog 7 #[.pointer (some ⟨W, 0, none⟩), .agg o.cs] y fun e y' => e = .returned (.bool true) ∧ Wd w y' X W t r u L := by
  obtain ⟨kind, on, pr, v, leave, inn, oth⟩ := o
  dsimp only at *
  subst hkind
  simp only [Stp.cs]
  have h0 := h.below (Kb.below_one y (.cells #[.int .i64 4, .int .i64 on, .string pr, .int .i64 v, .int .i64 leave, .int .i64 inn, .string oth] tO))
  obtain ⟨c0, c1, c2⟩ := Wd.cells h0 k hk
  go_enter Tryz.func7, Tryz.ntmps7
  go_wp2_with fail
  refine (hon _).mono ?_
  rintro e x ⟨rfl, hx⟩
  rw [hx]
  clear hx x
  have k0 : (0 : Int) ≤ (k : Int) := by omega
  have k1 : (k : Int) < 2 := by omega
  go_wp2_with fail
  obtain ⟨z, hz⟩ : ∃ z, y.alloc (.cells #[.int .i64 4, .int .i64 on, .string pr, .int .i64 v, .int .i64 leave, .int .i64 inn, .string oth] tO) = z := ⟨_, rfl⟩
  have hQ : z.heap[y.heap.size]? = some (.cells #[.int .i64 4, .int .i64 on, .string pr, .int .i64 v, .int .i64 leave, .int .i64 inn, .string oth] tO) := hz ▸ Kb.h1_0 y _
  rw [hz] at h0
  rw [hz]
  obtain ⟨Q, hQQ⟩ : ∃ Q, y.heap.size = Q := ⟨_, rfl⟩
  rw [hQQ] at hQ
  rw [hQQ]
  clear hz hQQ c0 c1 c2 hon h
  obtain ⟨v0, e1, e2, e3⟩ := h0.row k hk
  obtain ⟨o0, cap0, rfl, x1, x2⟩ := e3
  clear x1 x2
  have c2 : z.cell? ⟨r k, 0, none⟩ = some (.slice o0 (L k).length cap0) := by simp [World.cell?, e1]
  have H0 : Hid (Wd w z X W t r u L) := h0
  have LA := fun m => len_any (z.drewN m) X (t k) (L k) ((H0.out.tri k hk).below (below_drewN (Below.refl _ z) m))
  clear hQ h0 e1 e2
  generalize (L k).length = N at c2 LA
  go_quiet ((go_at_call 19; exact Calls.quiet_of_same (LA _)))
  go_wp2_with fail
  go_ret
  exact ⟨by simp, H0.out.below (below_drewN (Below.refl _ z) _)⟩
end Go.Proofs.YtecboaocoobjgaaGreatDoor.Ws
