/- Tries of int: New, Put, Drop, Find, Len. -/
import Derived.Test.YtecboaocoobjgaaGreatDoorMj
namespace Go.Proofs.YtecboaocoobjgaaGreatDoor.Tj
set_option linter.unusedVariables false
set_option linter.unusedSimpArgs false
open Go.RowKit Lib0 Kb Rp Rw Rs Li Mj
abbrev enc (a : Int) : Value := Value.int .i64 a
abbrev LT := List (K × Int)
theorem enc_inj {a b : Int} (h : enc a = enc b) : a = b := by cases h; rfl
/-- a key that may be -/
def okK (k : K) : Bool := k.all isD && decide (1 ≤ k.length) && decide (k.length ≤ 19)
/-- a trie in memory: nothing of it but its own block is among X -/
structure Tri (w : World) (X : List Nat) (b : Nat) (L : LT) : Prop where
  mem : b ∈ X
  all : ∀ x ∈ X, x < w.heap.size
  srt : Srt L
  keys : ∀ x ∈ L, okK x.1 = true
  tree : ∃ T, w.heap[b]? = some (.cells #[ptr T, .int .i64 (L.length : Int)] tR) ∧ InT w X T ∧ (∀ k, T.mp k = (lkp L k).map enc) ∧ Dp T 20
theorem Tri.lt {w : World} {X : List Nat} {b : Nat} {L : LT} (h : Tri w X b L) : b < w.heap.size := h.all b h.mem
/-- it stays where all blocks stay, but others of X -/
theorem Tri.kept {w w' : World} {X : List Nat} {b : Nat} {L : LT} (h : Tri w X b L) (k : KT X w w') (hb : w'.heap[b]? = w.heap[b]?) : Tri w' X b L :=
  ⟨h.mem, fun x hx => Nat.lt_of_lt_of_le (h.all x hx) k.size, h.srt, h.keys, let ⟨T, h1, h2, h3⟩ := h.tree; ⟨T, hb.trans h1, In.kept k T h2, h3⟩⟩
theorem Tri.below {w w' : World} {X : List Nat} {b : Nat} {L : LT} (h : Tri w X b L) (k : Below w.heap.size w w') : Tri w' X b L := h.kept (KT.of k) (k.block b h.lt)
theorem Tri.fr {w w' : World} {X Y : List Nat} {b : Nat} {L : LT} (h : Tri w X b L) (k : Fr Y w w') (hY : ∀ y ∈ Y, y ∈ X) (hb : b ∉ Y) : Tri w' X b L := h.kept (k.kt.mono hY) (k.block b h.lt hb)
/-- blocks that are new may be written -/
theorem Tri.more {w : World} {X Y : List Nat} {b : Nat} {L : LT} (h : Tri w X b L) (hY : ∀ y ∈ Y, y ∈ X ∨ w.heap.size ≤ y) (hb : b ∈ Y) {w' : World} (k : Below w.heap.size w w') (ha : ∀ y ∈ Y, y < w'.heap.size) : Tri w' Y b L :=
  let ⟨T, h1, h2, h3⟩ := h.tree
  ⟨hb, ha, h.srt, h.keys, T, (k.block b h.lt).trans h1, In.kept (KT.of k) T (In.more hY T h2), h3⟩
theorem lon_map (f : K → Option Int) (g : K → Option Value) (h : ∀ k, g k = (f k).map enc) (s : K) : ∀ n, lon g s n = (lon f s n).map fun x => (enc x.1, x.2)
  | 0 => by simp only [lon, h]; cases f [] <;> rfl
  | n + 1 => by
    simp only [lon, h]
    cases hf : f (s.take (n + 1))
    · exact lon_map f g h s n
    · rfl
theorem new_any (w : World) : Calls Tryz.prog 5 #[] w fun e w' => e = .returned (.pointer (some ⟨w.heap.size, 0, none⟩)) ∧ w' = w.alloc (.cells #[.pointer none, .int .i64 0] tR) := by
  go_enter Tryz.func5, Tryz.ntmps5
  go_wp2
  go_ret
  exact ⟨rfl, rfl⟩
theorem new_tri (w : World) : Tri (w.alloc (.cells #[.pointer none, .int .i64 0] tR)) [w.heap.size] w.heap.size [] :=
  ⟨by simp, fun x hx => by simp at hx; subst hx; simp, List.Pairwise.nil, fun x hx => by simp at hx, .nil, h1_0 w _, trivial, (fun k => by rw [mp_nil]; rfl), dp_nil 20⟩
theorem key_eq (s : ByteArray) : num s 19 = okK s.data.toList := by
  have : s.data.toList.length = s.size := by rw [Array.length_toList]; rfl
  rw [num, okK, this, inN, Bool.and_assoc]
  congr 1
  rw [show decide ((1 : Int) ≤ (s.size : Int)) = decide (1 ≤ s.size) by simp; omega, show decide ((s.size : Int) ≤ 19) = decide (s.size ≤ 19) by simp; omega]
theorem lon_whole (L : LT) (s : ByteArray) (b : Bool) (h : isAt L s.data.toList = b) : (match lon (lkp L) s.data.toList s.size with | some x => decide (x.2 = s.size) | none => false) = b := by
  have hl : s.data.toList.length = s.size := by rw [Array.length_toList]; rfl
  cases e : lon (lkp L) s.data.toList s.size with
  | none =>
    have := lon_no _ _ _ e s.size (Nat.le_refl _)
    rw [List.take_of_length_le (by omega)] at this
    rw [← h, isAt, this]; rfl
  | some x =>
    obtain ⟨a, m⟩ := x
    obtain ⟨h1, h2, h3⟩ := lon_is _ _ _ _ _ e
    by_cases hm : m = s.size
    · subst hm
      rw [List.take_of_length_le (by omega)] at h2
      rw [← h, isAt, h2]; simp
    · have := h3 s.size (by omega) (Nat.le_refl _)
      rw [List.take_of_length_le (by omega)] at this
      rw [← h, isAt, this]; simp [hm]
/-- what Find is told by its nodes -/
theorem fnd_cases {w : World} {X : List Nat} {T : Tn} {L : LT} {s : K} {n : Nat} {fo : Option (Nat × Value)} {lo : Nat} (hT : ∀ k, T.mp k = (lkp L k).map enc) (h : Fnd w X (lon T.mp s n) fo lo) :
    (fo = none ∧ lo = 0 ∧ lon (lkp L) s n = none) ∨ ∃ c a, fo = some (c, enc a) ∧ w.heap[c]? = some (.cells #[enc a] tT) ∧ lon (lkp L) s n = some (a, lo) := by
  obtain ⟨h1, h2, h3⟩ := h
  rw [lon_map _ _ hT] at h3
  cases fo with
  | none =>
    refine .inl ⟨rfl, h2 rfl, ?_⟩
    cases e : lon (lkp L) s n with
    | none => rfl
    | some x => rw [e] at h3; cases h3
  | some x =>
    obtain ⟨c, v⟩ := x
    cases e : lon (lkp L) s n with
    | none => rw [e] at h3; cases h3
    | some y =>
      rw [e] at h3
      simp only [Option.map_some, Option.some.injEq, Prod.mk.injEq] at h3
      obtain ⟨h4, h5⟩ := h3
      refine .inr ⟨c, y.1, by rw [h4], by rw [h4]; exact (h1 c v rfl).2, ?_⟩
      rw [← h5]
theorem has_any (w : World) (X : List Nat) (b : Nat) (L : LT) (s : ByteArray) (h : Tri w X b L) (hs : s.size ≤ maxLen) : Calls Tryz.prog 23 #[.pointer (some ⟨b, 0, none⟩), .string s] w fun e w' => e = .returned (.bool (isAt L s.data.toList)) ∧ Below w.heap.size w w' := by
  obtain ⟨T, h1, h2, h3, -⟩ := h.tree
  obtain ⟨c0, -, -, -⟩ := held2 (Below.refl _ w) h1
  have pl := longest_any T s w X h2 hs
  obtain ⟨R, HR⟩ : ∃ R, Hid (isAt L s.data.toList = R) := ⟨_, rfl⟩
  rw [HR.out]
  have HW := lon_whole L s R HR.out
  clear h1 h2 h
  go_enter Tryz.func23, Tryz.ntmps23
  go_wp2_with fail
  refine pl.mono ?_
  clear pl
  rintro e y ⟨⟨fo, lo, rfl, hlo, hf⟩, hb⟩
  have HF := fnd_cases h3 hf
  clear hf
  rcases HF with ⟨rfl, rfl, e⟩ | ⟨c, a, rfl, hc, e⟩
  · rw [e] at HW
    simp only [la, lptr]
    have HB : Hid (R = false) := HW.symm
    clear HW e hlo
    go_wp2_with fail
    go_ret
    exact ⟨by rw [HB.out]; rfl, hb⟩
  · rw [e] at HW
    simp only [la, lptr]
    simp only at HW
    have HB : Hid (R = decide (lo = s.size)) := HW.symm
    clear HW e hlo hc
    go_wp2_with fail
    go_ret
    refine ⟨?_, hb⟩
    rw [HB.out]
    by_cases e : lo = s.size
    · subst e; simp
    · have : ¬ (lo : Int) = (s.size : Int) := by omega
      simp [e, this]
def FindPost (L : LT) (s : ByteArray) (e : Ending) : Prop := match lon (lkp L) s.data.toList s.size with
  | some x => e = .returned (.tuple #[enc x.1, .int .i64 (x.2 : Int), .bool true])
  | none => e = .returned (.tuple #[Value.int .i64 0, .int .i64 0, .bool false])
theorem find_any (w : World) (X : List Nat) (b : Nat) (L : LT) (s : ByteArray) (h : Tri w X b L) (hs : s.size ≤ maxLen) : Calls Tryz.prog 9 #[.pointer (some ⟨b, 0, none⟩), .string s] w fun e w' => FindPost L s e ∧ Below w.heap.size w w' := by
  obtain ⟨T, h1, h2, h3, -⟩ := h.tree
  obtain ⟨c0, -, -, -⟩ := held2 (Below.refl _ w) h1
  have pl := longest_any T s w X h2 hs
  clear h1 h2 h
  go_enter Tryz.func9, Tryz.ntmps9
  go_wp2_with fail
  refine pl.mono ?_
  clear pl
  rintro e y ⟨⟨fo, lo, rfl, hlo, hf⟩, hb⟩
  have HF := fnd_cases h3 hf
  clear hf hlo
  rcases HF with ⟨rfl, rfl, e⟩ | ⟨c, a, rfl, hc, e⟩
  · simp only [la, lptr]
    have HE : Hid (lon (lkp L) s.data.toList s.size = none) := e
    clear e
    go_wp2_with fail
    go_ret3
    exact ⟨by rw [FindPost, HE.out]; rfl, hb⟩
  · simp only [la, lptr]
    have hcy := kept hb hc
    have cc : y.cell? ⟨c, 0, none⟩ = some (Value.int .i64 a) := by simp [World.cell?, hcy]
    have HE : Hid (lon (lkp L) s.data.toList s.size = some (a, lo)) := e
    clear e hc hcy
    go_wp2_with fail
    go_ret3
    exact ⟨by rw [FindPost, HE.out]; rfl, hb⟩
theorem len_any (w : World) (X : List Nat) (b : Nat) (L : LT) (h : Tri w X b L) : Calls Tryz.prog 19 #[.pointer (some ⟨b, 0, none⟩)] w fun e w' => e = .returned (.int .i64 (L.length : Int)) ∧ w' = w := by
  obtain ⟨T, h1, h2, h3, -⟩ := h.tree
  obtain ⟨-, c1, -, -⟩ := held2 (Below.refl _ w) h1
  clear h1 h2 h
  go_enter Tryz.func19, Tryz.ntmps19
  go_wp2
  go_ret
  exact ⟨rfl, rfl⟩
def putE (L : LT) (k : K) : Bool := okK k && !isAt L k
def putL (L : LT) (k : K) (n : Int) : LT := if putE L k then ins L k n else L
/-- what is behind a change of the two cells -/
theorem Tri.turn {w y : World} {X : List Nat} {b : Nat} {L L2 : LT} {T2 : Tn} {u v : Value} (h : Tri w X b L) (hb : Below w.heap.size w y) (hy : y.heap[b]? = some (.cells #[u, v] tR)) (hi : InT y X T2) (hm : ∀ k, T2.mp k = (lkp L2 k).map enc) (hd : Dp T2 20) (hs : Srt L2) (hk : ∀ x ∈ L2, okK x.1 = true) :
    Tri ((y.setCell ⟨b, 0, none⟩ (ptr T2)).setCell ⟨b, 1, none⟩ (.int .i64 (L2.length : Int))) X b L2 ∧ Fr [b] w ((y.setCell ⟨b, 0, none⟩ (ptr T2)).setCell ⟨b, 1, none⟩ (.int .i64 (L2.length : Int))) := by
  have k2 : KT X y ((y.setCell ⟨b, 0, none⟩ (ptr T2)).setCell ⟨b, 1, none⟩ (.int .i64 (L2.length : Int))) := (KT.set h.mem _ _).trans (KT.set h.mem _ _)
  refine ⟨⟨h.mem, fun x hx => ?_, hs, hk, T2, ?_, In.kept k2 T2 hi, hm, hd⟩, ((Fr.of hb).set (.inl (by simp)) _ _).set (.inl (by simp)) _ _⟩
  · have := h.all x hx
    have := hb.size
    have := k2.size
    omega
  · rw [setCell_heap (setCell_heap hy 0 _) 1 _]; rfl
set_option maxRecDepth 100000 in
set_option maxHeartbeats 1600000 in
theorem put_any (w : World) (X : List Nat) (b : Nat) (L : LT) (s : ByteArray) (n : Int) (h : Tri w X b L) (hs : s.size ≤ maxLen) (hL : L.length < 4611686018427387904) :
    Calls Tryz.prog 8 #[.pointer (some ⟨b, 0, none⟩), .string s, Value.int .i64 n] w fun e w' => e = .returned (.int .i64 (if putE L s.data.toList then 0 else 150)) ∧ Tri w' X b (putL L s.data.toList n) ∧ Fr [b] w w' := by
  have h0 : Tri (w.alloc (.cells #[Value.int .i64 n] tT)) X b L := h.below (below_one w _)
  have pn := fun w => isNumber_any s 19 w hs
  have ph := has_any _ X b L s h0 hs
  rw [key_eq] at pn
  have HL : Hid (Fr [b] w (w.alloc (.cells #[Value.int .i64 n] tT))) := Fr.of (below_one w _)
  cases hk : okK s.data.toList with
  | false =>
    have e : putE L s.data.toList = false := by rw [putE, hk]; rfl
    rw [hk] at pn
    simp only [putL, e, if_neg (Bool.false_ne_true)]
    clear ph e hk
    go_enter Tryz.func8, Tryz.ntmps8
    go_wp2_with fail
    refine (pn _).mono ?_
    rintro e y ⟨rfl, hy⟩
    rw [hy]
    clear hy y
    go_wp2_with fail
    go_ret
    exact ⟨rfl, h0, HL.out⟩
  | true =>
    rw [hk] at pn
    cases ha : isAt L s.data.toList with
    | true =>
      have e : putE L s.data.toList = false := by rw [putE, ha, hk]; rfl
      rw [ha] at ph
      simp only [putL, e, if_neg (Bool.false_ne_true)]
      clear e hk ha
      go_enter Tryz.func8, Tryz.ntmps8
      go_wp2_with fail
      refine (pn _).mono ?_
      rintro e y ⟨rfl, hy⟩
      rw [hy]
      clear hy y
      go_wp2_with fail
      refine ph.mono ?_
      rintro e y ⟨rfl, hb⟩
      go_wp2_with fail
      go_ret
      exact ⟨rfl, h0.below hb, HL.out.trans (Fr.of hb)⟩
    | false =>
      have e : putE L s.data.toList = true := by rw [putE, ha, hk]; rfl
      rw [ha] at ph
      have HS := ins_srt h.srt ha n
      have HLk := ins_look h.srt ha n
      have HN := ins_len L s.data.toList n
      simp only [putL, e, if_true]
      have HD : Hid (s.data.toList.all isD = true) := by
        simp only [okK, Bool.and_eq_true] at hk; exact hk.1.1
      have HD19 : Hid (s.data.toList.length < 20) := by
        simp only [okK, Bool.and_eq_true, decide_eq_true_eq] at hk; show _ < _; omega
      have HK : Hid (∀ x ∈ ins L s.data.toList n, okK x.1 = true) := fun x hx => (ins_mem.1 hx).elim (fun e => by rw [e]; exact hk) (h.keys x)
      have q1 : ((L.length : Int) + 1) = ((ins L s.data.toList n).length : Int) := by rw [HN]; simp
      have HQ : Hid ((L.length : Int) + 1 = ((ins L s.data.toList n).length : Int)) := q1
      have q2 : (L.length : Int) + 1 ≤ 9223372036854775807 := by omega
      clear e hk ha q1 HN
      go_enter Tryz.func8, Tryz.ntmps8
      go_wp2_with fail
      refine (pn _).mono ?_
      rintro e y ⟨rfl, hy⟩
      rw [hy]
      clear hy y
      go_wp2_with fail
      refine ph.mono ?_
      rintro e y ⟨rfl, hb⟩
      have hb1 : Below w.heap.size w y := keepB (below_one w _) hb
      have hg := kept hb (h1_0 w _)
      have h1 := h0.below hb
      obtain ⟨T, t1, t2, t3, t4⟩ := h1.tree
      obtain ⟨c0, c1, f0, f1⟩ := held2 (Below.refl _ y) t1
      have hw := with_any _ s rfl HD.out T y X (some (w.heap.size, enc n)) t2 (fun c v e => by cases e; exact ⟨fun hx => Nat.lt_irrefl _ (h.all _ hx), hg⟩) h1.all
      simp only [la, lptr, ptr] at hw
      simp only [ptr] at c0
      clear ph pn
      go_wp2_with fail
      refine hw.mono ?_
      clear hw
      rintro e z ⟨T2, rfl, i2, m2, hb2, d2⟩
      obtain ⟨d0, d1, g0, g1⟩ := held2 hb2 t1
      have hz := kept hb2 t1
      clear c0 c1 f0 f1
      have D1 : (z.setCell ⟨b, 0, none⟩ (.pointer (pa T2))).cell? ⟨b, 1, none⟩ = some (.int .i64 (L.length : Int)) := by simp [World.cell?, setCell_heap hz]
      have G1 : (z.setCell ⟨b, 0, none⟩ (.pointer (pa T2))).frozen? ⟨b, 1, none⟩ = false := by simp [World.frozen?, setCell_heap hz]
      go_wp2_with fail
      go_ret
      have := Tri.turn h1 hb2 hz i2 (L2 := ins L s.data.toList n) (fun k => by
        rw [m2, upd, HLk, t3]
        split <;> rfl) (d2 20 HD19.out t4) HS HK.out
      rw [HQ.out]
      exact ⟨rfl, this.1, (Fr.of hb1).trans this.2⟩
set_option maxRecDepth 100000 in
set_option maxHeartbeats 1600000 in
theorem drop_any (w : World) (X : List Nat) (b : Nat) (L : LT) (s : ByteArray) (h : Tri w X b L) (hs : s.size ≤ maxLen) (hL : L.length < 4611686018427387904) :
    Calls Tryz.prog 16 #[.pointer (some ⟨b, 0, none⟩), .string s] w fun e w' => e = .returned (.bool (isAt L s.data.toList)) ∧ Tri w' X b (if isAt L s.data.toList then del L s.data.toList else L) ∧ Fr [b] w w' := by
  have ph := has_any _ X b L s h hs
  cases ha : isAt L s.data.toList with
  | false =>
    rw [ha] at ph
    simp only [if_neg (Bool.false_ne_true)]
    clear ha
    go_enter Tryz.func16, Tryz.ntmps16
    go_wp2_with fail
    refine ph.mono ?_
    rintro e y ⟨rfl, hb⟩
    go_wp2_with fail
    go_ret
    exact ⟨rfl, h.below hb, Fr.of hb⟩
  | true =>
    rw [ha] at ph
    have HS := del_srt h.srt s.data.toList
    have HLk := del_look h.srt ha
    have HN := del_len h.srt ha
    simp only [if_true]
    have HD : Hid (s.data.toList.all isD = true) := by
      obtain ⟨v, hv⟩ := Option.isSome_iff_exists.1 ha
      have := h.keys _ (look_mem hv)
      simp only [okK, Bool.and_eq_true] at this; exact this.1.1
    have HD19 : Hid (s.data.toList.length < 20) := by
      obtain ⟨v, hv⟩ := Option.isSome_iff_exists.1 ha
      have := h.keys _ (look_mem hv)
      simp only [okK, Bool.and_eq_true, decide_eq_true_eq] at this; show _ < _; omega
    have HK : Hid (∀ x ∈ del L s.data.toList, okK x.1 = true) := fun x hx => h.keys x ((del_sub L _).subset hx)
    have HQ : Hid ((L.length : Int) - 1 = ((del L s.data.toList).length : Int)) := by show _ = _; omega
    have q2 : (L.length : Int) - 1 ≤ 9223372036854775807 := by omega
    have q3 : (-9223372036854775808 : Int) ≤ (L.length : Int) - 1 := by omega
    clear ha HN
    go_enter Tryz.func16, Tryz.ntmps16
    go_wp2_with fail
    refine ph.mono ?_
    rintro e y ⟨rfl, hb⟩
    have h1 := h.below hb
    obtain ⟨T, t1, t2, t3, t4⟩ := h1.tree
    obtain ⟨c0, c1, f0, f1⟩ := held2 (Below.refl _ y) t1
    have hw := with_any _ s rfl HD.out T y X none t2 (Lay.none _ _ _) h1.all
    simp only [la, lptr, ptr] at hw
    simp only [ptr] at c0
    clear ph
    go_wp2_with fail
    refine hw.mono ?_
    clear hw
    rintro e z ⟨T2, rfl, i2, m2, hb2, d2⟩
    obtain ⟨d0, d1, g0, g1⟩ := held2 hb2 t1
    have hz := kept hb2 t1
    clear c0 c1 f0 f1
    have D1 : (z.setCell ⟨b, 0, none⟩ (.pointer (pa T2))).cell? ⟨b, 1, none⟩ = some (.int .i64 (L.length : Int)) := by simp [World.cell?, setCell_heap hz]
    have G1 : (z.setCell ⟨b, 0, none⟩ (.pointer (pa T2))).frozen? ⟨b, 1, none⟩ = false := by simp [World.frozen?, setCell_heap hz]
    go_wp2_with fail
    go_ret
    have := Tri.turn h1 hb2 hz i2 (L2 := del L s.data.toList) (fun k => by
      rw [m2, upd, HLk, t3]
      split <;> rfl) (d2 20 HD19.out t4) HS HK.out
    rw [HQ.out]
    exact ⟨rfl, this.1, (Fr.of hb).trans this.2⟩
end Go.Proofs.YtecboaocoobjgaaGreatDoor.Tj
