/- Tries, plain: rising lists of keys, what is laid under them, trees of ten kids. -/
import Derived.Test.YtecboaocoobjgaaGreatDoorRows
import Derived.WalkKit
namespace Go.Proofs.YtecboaocoobjgaaGreatDoor.Rp
set_option linter.unusedVariables false
set_option linter.unusedSimpArgs false
abbrev K := List UInt8
abbrev lt : K → K → Bool := Op.bytesLess
theorem lt_nil : ∀ a : K, lt a [] = false
  | [] => rfl
  | _ :: _ => rfl
theorem lt_cons (a b : UInt8) (x y : K) : lt (a :: x) (b :: y) = (decide (a < b) || (a == b && lt x y)) := rfl
theorem lt_irrefl : ∀ a : K, lt a a = false
  | [] => rfl
  | a :: x => by rw [lt_cons, lt_irrefl x]; simp
theorem lt_trans : ∀ a b c : K, lt a b = true → lt b c = true → lt a c = true
  | _, b, [], _, h => by rw [lt_nil] at h; cases h
  | [], _, _ :: _, _, _ => rfl
  | a :: x, [], c :: z, h, _ => by rw [lt_nil] at h; cases h
  | a :: x, b :: y, c :: z, h, k => by
    simp only [lt_cons, Bool.or_eq_true, Bool.and_eq_true, decide_eq_true_eq, beq_iff_eq] at *
    have := lt_trans x y z
    rcases h with h | ⟨rfl, h⟩ <;> rcases k with k | ⟨rfl, k⟩
    · exact .inl (UInt8.lt_trans h k)
    · exact .inl h
    · exact .inl k
    · exact .inr ⟨rfl, this h k⟩
theorem lt_tri : ∀ a b : K, lt a b = false → lt b a = false → a = b
  | [], [], _, _ => rfl
  | [], _ :: _, h, _ => by cases h
  | _ :: _, [], _, h => by cases h
  | a :: x, b :: y, h, k => by
    simp only [lt_cons, Bool.or_eq_false_iff, Bool.and_eq_false_iff, decide_eq_false_iff_not, beq_eq_false_iff_ne] at *
    have e : a = b := UInt8.le_antisymm (UInt8.not_lt.1 k.1) (UInt8.not_lt.1 h.1)
    subst e
    rw [lt_tri x y (by simpa using h.2) (by simpa using k.2)]
theorem lt_asymm {a b : K} (h : lt a b = true) : lt b a = false := by
  cases k : lt b a
  · rfl
  · have := lt_trans a b a h k; rw [lt_irrefl] at this; cases this
theorem lt_ne {a b : K} (h : lt a b = true) : a ≠ b := fun e => by subst e; rw [lt_irrefl] at h; cases h
theorem lt_append : ∀ (p : K) (a b : K), lt (p ++ a) (p ++ b) = lt a b
  | [], _, _ => rfl
  | c :: p, a, b => by simp only [List.cons_append, lt_cons]; rw [lt_append p a b]; simp
/-- rising -/
def Srt {α : Type} (L : List (K × α)) : Prop := L.Pairwise fun a b => lt a.1 b.1 = true
def lkp {α : Type} : List (K × α) → K → Option α
  | [], _ => none
  | (q, v) :: L, k => if q = k then some v else lkp L k
theorem look_mem {α : Type} : ∀ {L : List (K × α)} {k : K} {v : α}, lkp L k = some v → (k, v) ∈ L
  | (q, u) :: L, k, v, h => by
    simp only [lkp] at h
    split at h
    · cases h; rename_i e; subst e; simp
    · exact List.mem_cons_of_mem _ (look_mem h)
theorem mem_look {α : Type} : ∀ {L : List (K × α)} {k : K} {v : α}, Srt L → (k, v) ∈ L → lkp L k = some v
  | (q, u) :: L, k, v, hs, h => by
    simp only [Srt, List.pairwise_cons] at hs
    rcases List.mem_cons.1 h with e | h'
    · cases e; simp [lkp]
    · have := lt_ne (hs.1 _ h')
      simp only [lkp, if_neg this]
      exact mem_look hs.2 h'
theorem look_none {α : Type} {L : List (K × α)} {k : K} (h : ∀ x ∈ L, x.1 ≠ k) : lkp L k = none := by
  cases e : lkp L k
  · rfl
  · exact absurd rfl (h _ (look_mem e))
/-- two rising lists with the same in them -/
theorem srt_ext {α : Type} : ∀ {L M : List (K × α)}, Srt L → Srt M → (∀ x, x ∈ L ↔ x ∈ M) → L = M
  | [], [], _, _, _ => rfl
  | [], y :: M, _, _, h => by have := (h y).2 (by simp); simp at this
  | x :: L, [], _, _, h => by have := (h x).1 (by simp); simp at this
  | x :: L, y :: M, hl, hm, h => by
    simp only [Srt, List.pairwise_cons] at hl hm
    have e : x = y := by
      rcases List.mem_cons.1 ((h x).1 (by simp)) with e | h1
      · exact e
      · rcases List.mem_cons.1 ((h y).2 (by simp)) with e | h2
        · exact e.symm
        · have a := lt_asymm (hm.1 _ h1); rw [hl.1 _ h2] at a; cases a
    subst e
    rw [srt_ext hl.2 hm.2 fun z => ?_]
    constructor
    · intro hz
      rcases List.mem_cons.1 ((h z).1 (List.mem_cons_of_mem _ hz)) with e | h1
      · subst e; exact absurd rfl (lt_ne (hl.1 _ hz))
      · exact h1
    · intro hz
      rcases List.mem_cons.1 ((h z).2 (List.mem_cons_of_mem _ hz)) with e | h1
      · subst e; exact absurd rfl (lt_ne (hm.1 _ hz))
      · exact h1
/-- where a key stands, or would -/
def place {α : Type} : List (K × α) → K → Nat
  | [], _ => 0
  | (q, _) :: L, k => if lt q k then place L k + 1 else 0
theorem place_le {α : Type} : ∀ (L : List (K × α)) (k : K), place L k ≤ L.length
  | [], _ => Nat.le_refl _
  | (q, _) :: L, k => by have := place_le L k; simp only [place, List.length_cons]; split <;> omega
theorem place_before {α : Type} : ∀ (L : List (K × α)) (k : K) (i : Nat) (h : i < L.length), i < place L k → lt (L[i]).1 k = true
  | (q, _) :: L, k, 0, h, hp => by
    simp only [place] at hp
    split at hp
    · assumption
    · omega
  | (q, _) :: L, k, i + 1, h, hp => by
    simp only [place] at hp
    split at hp
    · exact place_before L k i (by simpa using h) (by omega)
    · omega
theorem place_at {α : Type} : ∀ (L : List (K × α)) (k : K) (h : place L k < L.length), lt (L[place L k]).1 k = false
  | (q, v) :: L, k, h => by
    simp only [place] at h ⊢
    split
    · rename_i hq
      simp only [hq, if_true] at h
      simp only [List.getElem_cons_succ]
      exact place_at L k (by simpa using h)
    · rename_i hq
      simpa using hq
theorem place_uniq {α : Type} (L : List (K × α)) (k : K) (i : Nat) (hi : i ≤ L.length) (h1 : ∀ j (h : j < L.length), j < i → lt (L[j]).1 k = true) (h2 : ∀ h : i < L.length, lt (L[i]).1 k = false) : place L k = i := by
  rcases Nat.lt_trichotomy (place L k) i with h | h | h
  · have a := place_at L k (by omega)
    rw [h1 _ (by omega) h] at a; cases a
  · exact h
  · have hl := place_le L k
    have a := place_before L k i (by omega) h
    rw [h2 (by omega)] at a; cases a
def isAt {α : Type} (L : List (K × α)) (k : K) : Bool := (lkp L k).isSome
theorem before_mem {α : Type} {L : List (K × α)} (hs : Srt L) {k : K} {x : K × α} (h : x ∈ L.take (place L k)) : lt x.1 k = true := by
  obtain ⟨i, hi, e⟩ := List.getElem_of_mem h
  rw [List.getElem_take] at e
  rw [← e]
  exact place_before L k i _ (by rw [List.length_take] at hi; omega)
theorem behind_mem {α : Type} {L : List (K × α)} (hs : Srt L) {k : K} {x : K × α} (h : x ∈ L.drop (place L k)) : lt x.1 k = false := by
  obtain ⟨i, hi, e⟩ := List.getElem_of_mem h
  rw [List.getElem_drop] at e
  rw [List.length_drop] at hi
  have h0 := place_at L k (by omega)
  by_cases hz : i = 0
  · subst hz; rw [← e]; simpa using h0
  · have hp := List.pairwise_iff_getElem.1 hs (place L k) (place L k + i) (by omega) (by omega) (by omega)
    rw [e] at hp
    cases hx : lt x.1 k
    · rfl
    · have := lt_trans _ _ _ hp hx; rw [h0] at this; cases this
theorem isAt_iff {α : Type} {L : List (K × α)} (hs : Srt L) (k : K) : isAt L k = true ↔ ∃ h : place L k < L.length, (L[place L k]).1 = k := by
  constructor
  · intro h
    obtain ⟨v, hv⟩ := Option.isSome_iff_exists.1 h
    have hm := look_mem hv
    rw [← List.take_append_drop (place L k) L, List.mem_append] at hm
    rcases hm with hm | hm
    · have := before_mem hs hm; rw [lt_irrefl] at this; cases this
    · obtain ⟨i, hi, e⟩ := List.getElem_of_mem hm
      rw [List.getElem_drop] at e
      rw [List.length_drop] at hi
      refine ⟨by omega, ?_⟩
      have h0 := place_at L k (by omega)
      by_cases hz : i = 0
      · subst hz; simp only [Nat.add_zero] at e; rw [e]
      · have hp := List.pairwise_iff_getElem.1 hs (place L k) (place L k + i) (by omega) (by omega) (by omega)
        rw [e, h0] at hp; cases hp
  · rintro ⟨h, e⟩
    have : (k, (L[place L k]).2) ∈ L := by
      have := List.getElem_mem h
      rw [show L[place L k] = ((L[place L k]).1, (L[place L k]).2) from rfl, e] at this
      exact this
    unfold isAt; rw [mem_look hs this]; rfl
def ins {α : Type} (L : List (K × α)) (k : K) (v : α) : List (K × α) := L.take (place L k) ++ (k, v) :: L.drop (place L k)
def del {α : Type} (L : List (K × α)) (k : K) : List (K × α) := L.take (place L k) ++ L.drop (place L k + 1)
theorem ins_mem {α : Type} {L : List (K × α)} {k : K} {v : α} {x : K × α} : x ∈ ins L k v ↔ x = (k, v) ∨ x ∈ L := by
  conv => rhs; rw [← List.take_append_drop (place L k) L]
  simp only [ins, List.mem_append, List.mem_cons]
  constructor
  · rintro (h | h | h)
    · exact .inr (.inl h)
    · exact .inl h
    · exact .inr (.inr h)
  · rintro (h | h | h)
    · exact .inr (.inl h)
    · exact .inl h
    · exact .inr (.inr h)
theorem ins_srt {α : Type} {L : List (K × α)} (hs : Srt L) {k : K} (hk : isAt L k = false) (v : α) : Srt (ins L k v) := by
  have hb : ∀ x ∈ L.drop (place L k), lt k x.1 = true := fun x hx => by
    have h1 := behind_mem hs hx
    cases h2 : lt k x.1
    · have e := lt_tri _ _ h1 h2
      have : isAt L k = true := by
        unfold isAt; rw [mem_look hs (v := x.2) (by rw [← e]; exact List.mem_of_mem_drop hx)]; rfl
      rw [hk] at this; cases this
    · rfl
  have hp := hs
  rw [← List.take_append_drop (place L k) L] at hp
  simp only [Srt, List.pairwise_append] at hp
  simp only [ins, Srt, List.pairwise_append, List.pairwise_cons]
  refine ⟨hp.1, ⟨hb, hp.2.1⟩, fun a ha b h => ?_⟩
  rcases List.mem_cons.1 h with e | h
  · subst e; exact before_mem hs ha
  · exact hp.2.2 a ha b h
theorem ins_look {α : Type} {L : List (K × α)} (hs : Srt L) {k : K} (hk : isAt L k = false) (v : α) (q : K) : lkp (ins L k v) q = if q = k then some v else lkp L q := by
  have hs' := ins_srt hs hk v
  split
  · rename_i e; subst e; exact mem_look hs' (ins_mem.2 (.inl rfl))
  · rename_i e
    cases h : lkp L q
    · refine look_none fun x hx => ?_
      rcases ins_mem.1 hx with rfl | h1
      · exact fun h => e h.symm
      · intro h2
        have := mem_look hs (v := x.2) (k := q) (by rw [← h2]; exact h1)
        rw [h] at this; cases this
    · exact mem_look hs' (ins_mem.2 (.inr (look_mem h)))
theorem ins_len {α : Type} (L : List (K × α)) (k : K) (v : α) : (ins L k v).length = L.length + 1 := by
  have := place_le L k
  simp only [ins, List.length_append, List.length_cons, List.length_take, List.length_drop]; omega
theorem del_sub {α : Type} (L : List (K × α)) (k : K) : (del L k).Sublist L := by
  conv => rhs; rw [← List.take_append_drop (place L k) L]
  unfold del
  refine List.Sublist.append (List.Sublist.refl _) ?_
  rw [← List.drop_drop]
  exact List.drop_sublist _ _
theorem del_srt {α : Type} {L : List (K × α)} (hs : Srt L) (k : K) : Srt (del L k) := hs.sublist (del_sub L k)
theorem del_split {α : Type} {L : List (K × α)} (hs : Srt L) {k : K} (hk : isAt L k = true) : ∃ v, L = L.take (place L k) ++ (k, v) :: L.drop (place L k + 1) := by
  obtain ⟨h, e⟩ := (isAt_iff hs k).1 hk
  refine ⟨(L[place L k]).2, ?_⟩
  have e2 : (k, (L[place L k]).2) = L[place L k] := by
    rw [show L[place L k] = ((L[place L k]).1, (L[place L k]).2) from rfl, e]
  rw [e2, ← List.drop_eq_getElem_cons h, List.take_append_drop]
theorem del_look {α : Type} {L : List (K × α)} (hs : Srt L) {k : K} (hk : isAt L k = true) (q : K) : lkp (del L k) q = if q = k then none else lkp L q := by
  obtain ⟨v, e⟩ := del_split hs hk
  have hs' := del_srt hs k
  have hm : ∀ x, x ∈ L ↔ x ∈ del L k ∨ x = (k, v) := fun x => by
    conv => lhs; rw [e]
    unfold del
    simp only [List.mem_append, List.mem_cons]
    constructor
    · rintro (h | h | h)
      · exact .inl (.inl h)
      · exact .inr h
      · exact .inl (.inr h)
    · rintro ((h | h) | h)
      · exact .inl h
      · exact .inr (.inr h)
      · exact .inr (.inl h)
  split
  · rename_i eq; subst eq
    refine look_none fun x hx h2 => ?_
    have hp := hs
    rw [e] at hp
    simp only [Srt, List.pairwise_append, List.pairwise_cons] at hp
    unfold del at hx
    rcases List.mem_append.1 hx with h | h
    · have := lt_ne (hp.2.2 x h (q, v) (by simp)); exact this h2
    · have := lt_ne (hp.2.1.1 x h); exact this h2.symm
  · rename_i eq
    cases h : lkp L q
    · refine look_none fun x hx h2 => ?_
      have := mem_look hs (v := x.2) (k := q) (by rw [← h2]; exact (hm x).2 (.inl hx))
      rw [h] at this; cases this
    · rcases (hm _).1 (look_mem h) with h1 | h1
      · exact mem_look hs' h1
      · cases h1; exact absurd rfl eq
theorem del_len {α : Type} {L : List (K × α)} (hs : Srt L) {k : K} (hk : isAt L k = true) : (del L k).length + 1 = L.length := by
  obtain ⟨v, e⟩ := del_split hs hk
  conv => rhs; rw [e]
  simp only [del, List.length_append, List.length_cons]; omega
/-- the longest beginning, of at most n, under which something is laid -/
def lon {α : Type} (f : K → Option α) (s : K) : Nat → Option (α × Nat)
  | 0 => (f []).map (·, 0)
  | n + 1 => match f (s.take (n + 1)) with
    | some v => some (v, n + 1)
    | none => lon f s n
theorem lon_none {α : Type} (f : K → Option α) (s : K) : ∀ n, (∀ j, j ≤ n → f (s.take j) = none) → lon f s n = none
  | 0, h => by have := h 0 (Nat.le_refl _); simp only [List.take_zero] at this; simp [lon, this]
  | n + 1, h => by simp only [lon, h (n + 1) (Nat.le_refl _)]; exact lon_none f s n fun j hj => h j (by omega)
theorem lon_up {α : Type} (f : K → Option α) (s : K) (m : Nat) : ∀ n, (∀ j, m < j → j ≤ m + n → f (s.take j) = none) → lon f s (m + n) = lon f s m
  | 0, _ => rfl
  | n + 1, h => by
    show lon f s (m + n + 1) = _
    simp only [lon, h (m + n + 1) (by omega) (by omega)]
    exact lon_up f s m n fun j h1 h2 => h j h1 (by omega)
theorem lon_at {α : Type} (f : K → Option α) (s : K) (m : Nat) (v : α) (h : f (s.take m) = some v) : lon f s m = some (v, m) := by
  cases m with
  | zero => simp only [List.take_zero] at h; simp [lon, h]
  | succ m => simp [lon, h]
theorem lon_is {α : Type} (f : K → Option α) (s : K) : ∀ n v m, lon f s n = some (v, m) → m ≤ n ∧ f (s.take m) = some v ∧ ∀ j, m < j → j ≤ n → f (s.take j) = none
  | 0, v, m, h => by
    simp only [lon, Option.map_eq_some_iff, Prod.mk.injEq] at h
    obtain ⟨a, h1, rfl, rfl⟩ := h
    exact ⟨Nat.le_refl _, by simpa using h1, fun j h1 h2 => by omega⟩
  | n + 1, v, m, h => by
    simp only [lon] at h
    split at h
    · rename_i e; cases h; exact ⟨Nat.le_refl _, e, fun j h1 h2 => by omega⟩
    · rename_i e
      obtain ⟨h1, h2, h3⟩ := lon_is f s n v m h
      refine ⟨by omega, h2, fun j h4 h5 => ?_⟩
      by_cases hj : j = n + 1
      · subst hj; exact e
      · exact h3 j h4 (by omega)
theorem lon_no {α : Type} (f : K → Option α) (s : K) : ∀ n, lon f s n = none → ∀ j, j ≤ n → f (s.take j) = none
  | 0, h, j, hj => by
    obtain rfl : j = 0 := by omega
    simpa [lon] using h
  | n + 1, h, j, hj => by
    simp only [lon] at h
    split at h
    · cases h
    · rename_i e
      by_cases hj : j = n + 1
      · subst hj; exact e
      · exact lon_no f s n h j (by omega)
theorem lon_congr {α : Type} {f g : K → Option α} (h : ∀ k, f k = g k) (s : K) (n : Nat) : lon f s n = lon g s n := by rw [show f = g from funext h]
def upd {α : Type} (f : K → Option α) (k : K) (v : Option α) : K → Option α := fun q => if q = k then v else f q
/-- a digit -/
def isD (c : UInt8) : Bool := decide (48 ≤ c.toNat) && decide (c.toNat ≤ 57)
theorem isD_iff (c : UInt8) : isD c = true ↔ 48 ≤ c.toNat ∧ c.toNat ≤ 57 := by simp [isD]
/-- a digit's byte -/
def dgt (d : Fin 10) : UInt8 := UInt8.ofNat (48 + d.1)
theorem dgt_nat (d : Fin 10) : (dgt d).toNat = 48 + d.1 := by
  have := d.2
  simp [dgt]; omega
theorem dgt_isD (d : Fin 10) : isD (dgt d) = true := by rw [isD_iff, dgt_nat]; have := d.2; omega
theorem dgt_inj {a b : Fin 10} (h : dgt a = dgt b) : a = b := by
  have := congrArg UInt8.toNat h
  rw [dgt_nat, dgt_nat] at this
  exact Fin.ext (by omega)
theorem dgt_of (c : UInt8) (h : isD c = true) : ∃ d : Fin 10, c = dgt d := by
  rw [isD_iff] at h
  exact ⟨⟨c.toNat - 48, by omega⟩, UInt8.toNat_inj.1 (by rw [dgt_nat]; simp; omega)⟩
theorem dgt_lt {a b : Fin 10} (h : a.1 < b.1) : dgt a < dgt b := by
  rw [UInt8.lt_iff_toNat_lt, dgt_nat, dgt_nat]; omega
/-- a node in memory: its block, what is laid there (its block, and the thing), its kids -/
inductive Tn where
  | nil : Tn
  | nd (b : Nat) (lv : Option (Nat × Value)) (kids : Fin 10 → Tn) : Tn
def Tn.mp : Tn → K → Option Value
  | .nil, _ => none
  | .nd _ lv _, [] => lv.map (·.2)
  | .nd _ _ kids, c :: k => if h : 48 ≤ c.toNat ∧ c.toNat ≤ 57 then (kids ⟨c.toNat - 48, by omega⟩).mp k else none
theorem mp_cons (b : Nat) (lv : Option (Nat × Value)) (kids : Fin 10 → Tn) (d : Fin 10) (k : K) : (Tn.nd b lv kids).mp (dgt d :: k) = (kids d).mp k := by
  have h := dgt_nat d
  have := d.2
  simp only [Tn.mp]
  rw [dif_pos (by omega)]
  congr 2
  exact Fin.ext (by simp; omega)
theorem mp_not (b : Nat) (lv : Option (Nat × Value)) (kids : Fin 10 → Tn) (c : UInt8) (k : K) (h : isD c = false) : (Tn.nd b lv kids).mp (c :: k) = none := by
  simp only [Tn.mp]
  rw [dif_neg]
  intro h2
  rw [← isD_iff, h] at h2; cases h2
theorem mp_nil (k : K) : Tn.nil.mp k = none := by cases k <;> rfl
/-- all nodes, each ahead of its kids -/
def Tn.nodes : Tn → K → List (K × Nat × Option (Nat × Value))
  | .nil, _ => []
  | .nd b lv kids, pre => (pre, b, lv) :: (List.finRange 10).flatMap fun d => (kids d).nodes (pre ++ [dgt d])
/-- what is laid, in order -/
def laids (l : List (K × Nat × Option (Nat × Value))) : List (K × Value) := l.filterMap fun x => x.2.2.map fun y => (x.1, y.2)
theorem laids_append (a b : List (K × Nat × Option (Nat × Value))) : laids (a ++ b) = laids a ++ laids b := by simp [laids]
theorem laids_flat {ι : Type} (f : ι → List (K × Nat × Option (Nat × Value))) : ∀ l : List ι, laids (l.flatMap f) = l.flatMap fun d => laids (f d)
  | [] => rfl
  | d :: l => by simp only [List.flatMap_cons, laids_append, laids_flat f l]
theorem laids_nd (b : Nat) (lv : Option (Nat × Value)) (kids : Fin 10 → Tn) (pre : K) : laids ((Tn.nd b lv kids).nodes pre) = (lv.map fun y => (pre, y.2)).toList ++ (List.finRange 10).flatMap fun d => laids ((kids d).nodes (pre ++ [dgt d])) := by
  rw [← laids_flat]
  simp only [Tn.nodes]
  rw [show (pre, b, lv) :: (List.finRange 10).flatMap (fun d => (kids d).nodes (pre ++ [dgt d])) = [(pre, b, lv)] ++ (List.finRange 10).flatMap (fun d => (kids d).nodes (pre ++ [dgt d])) from rfl, laids_append]
  cases lv <;> simp [laids]
theorem laids_mem : ∀ (T : Tn) (pre k : K) (v : Value), (k, v) ∈ laids (T.nodes pre) ↔ ∃ r, k = pre ++ r ∧ T.mp r = some v
  | .nil, pre, k, v => by simp [Tn.nodes, laids, mp_nil]
  | .nd b lv kids, pre, k, v => by
    rw [laids_nd, List.mem_append, List.mem_flatMap]
    constructor
    · rintro (h | ⟨d, _, h⟩)
      · simp only [Option.mem_toList, Option.map_eq_some_iff, Prod.mk.injEq, Option.mem_def] at h
        obtain ⟨y, h1, rfl, rfl⟩ := h
        exact ⟨[], by simp, by simp [Tn.mp, h1]⟩
      · obtain ⟨r, rfl, h2⟩ := (laids_mem (kids d) _ _ _).1 h
        exact ⟨dgt d :: r, by simp, by rw [mp_cons]; exact h2⟩
    · rintro ⟨r, rfl, h⟩
      cases r with
      | nil =>
        left
        simp only [Tn.mp, Option.map_eq_some_iff] at h
        obtain ⟨y, h1, rfl⟩ := h
        simp [h1]
      | cons c r =>
        right
        cases hc : isD c
        · rw [mp_not _ _ _ _ _ hc] at h; cases h
        · obtain ⟨d, rfl⟩ := dgt_of c hc
          rw [mp_cons] at h
          exact ⟨d, List.mem_finRange _, (laids_mem (kids d) _ _ _).2 ⟨r, by simp, h⟩⟩
theorem flat_srt (g : Fin 10 → List (K × Value)) (pre : K) (hs : ∀ d, Srt (g d)) (hp : ∀ d x, x ∈ g d → ∃ r, x.1 = pre ++ dgt d :: r) : ∀ l : List (Fin 10), l.Pairwise (fun a b => a.1 < b.1) → Srt (l.flatMap g)
  | [], _ => List.Pairwise.nil
  | d :: l, h => by
    simp only [List.pairwise_cons] at h
    simp only [List.flatMap_cons, Srt, List.pairwise_append]
    refine ⟨hs d, flat_srt g pre hs hp l h.2, fun a ha b hb => ?_⟩
    obtain ⟨e, he, hb⟩ := List.mem_flatMap.1 hb
    obtain ⟨r, h1⟩ := hp d a ha
    obtain ⟨q, h2⟩ := hp e b hb
    rw [h1, h2, lt_append, lt_cons]
    simp [dgt_lt (h.1 e he)]
theorem fr_srt : (List.finRange 10).Pairwise (fun a b => a.1 < b.1) := by decide
theorem laids_srt : ∀ (T : Tn) (pre : K), Srt (laids (T.nodes pre))
  | .nil, pre => List.Pairwise.nil
  | .nd b lv kids, pre => by
    rw [laids_nd]
    simp only [Srt, List.pairwise_append]
    refine ⟨?_, ?_, ?_⟩
    · cases lv <;> simp
    · refine flat_srt _ pre (fun d => laids_srt (kids d) _) (fun d x hx => ?_) _ fr_srt
      obtain ⟨r, h, _⟩ := (laids_mem (kids d) _ x.1 x.2).1 hx
      exact ⟨r, by rw [h]; simp⟩
    · intro a ha x hx
      obtain ⟨d, _, hx⟩ := List.mem_flatMap.1 hx
      obtain ⟨r, h, _⟩ := (laids_mem (kids d) _ x.1 x.2).1 hx
      simp only [Option.mem_toList, Option.map_eq_some_iff, Option.mem_def] at ha
      obtain ⟨y, _, rfl⟩ := ha
      rw [h]
      have := lt_append pre [] (dgt d :: r)
      simp only [List.append_nil] at this
      simp only [List.append_assoc, List.cons_append, List.nil_append]
      rw [this]; rfl
/-- going over all tells the rising list -/
theorem laids_eq {T : Tn} {L : List (K × Value)} (hs : Srt L) (h : ∀ k, T.mp k = lkp L k) : laids (T.nodes []) = L := by
  refine srt_ext (laids_srt T []) hs fun x => ?_
  rw [show x = (x.1, x.2) from rfl, laids_mem]
  constructor
  · rintro ⟨r, h1, h2⟩
    rw [h] at h2
    simp only [List.nil_append] at h1
    rw [h1]; exact look_mem h2
  · intro hx
    exact ⟨x.1, rfl, by rw [h]; exact mem_look hs hx⟩
end Go.Proofs.YtecboaocoobjgaaGreatDoor.Rp
