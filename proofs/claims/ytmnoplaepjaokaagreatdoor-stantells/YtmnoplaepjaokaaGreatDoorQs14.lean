import Derived.Test.YtmnoplaepjaokaaGreatDoorQs13
import Derived.Test.YtmnoplaepjaokaaGreatDoorQs00
import Derived.Deep.QuietTactic
/- StanTells, plain: what the digits say. -/
namespace Go.Proofs.YtmnoplaepjaokaaGreatDoor.Ue
set_option linter.unusedVariables false
set_option linter.unusedSimpArgs false
open Go.RowKit Lib0 Kb Xp Num Ca Ld De Oe Hx Dy Dz Pa Te Rt Rj Yg Ub
theorem dc_nat (x : Int) (h0 : 0 ≤ x) (h1 : x ≤ 9) : ((dc x).toNat : Int) = 48 + x := by
  unfold dc
  have : (48 + x).toNat < 256 := by omega
  rw [Nat.toUInt8, UInt8.toNat_ofNat']
  omega
/-- a text of digits -/
def Dg (l : List UInt8) : Prop := ∀ c ∈ l, 48 ≤ c.toNat ∧ c.toNat ≤ 57
theorem dg_dgs : ∀ (m n : Nat), Dg (dgs m n)
  | 0, n => by intro c hc; simp [dgs] at hc
  | m + 1, n => by
    intro c hc
    rw [dgs, List.mem_append] at hc
    rcases hc with hc | hc
    · exact dg_dgs m _ c hc
    · have : c = UInt8.ofNat (48 + n % 10) := by simpa using hc
      subst this
      rw [UInt8.toNat_ofNat']
      omega
theorem ord_bd {n Y M D : Int} (h : IsDay n Y M D) : 1 ≤ am Y M + D ∧ am Y M + D ≤ 366 ∧ am Y M + D = n - ay Y + 1 := by
  have a := h.in_year
  have d := ay_succ (y := Y) (by have := h.y0; omega) h.y1
  have e := am_end Y
  have := h.is
  have f : am Y 13 ≤ 366 := by rw [e]; split <;> omega
  omega
theorem ju_form {n Y M D : Int} (h : IsDay n Y M D) : juL Y M D = [dc (Y % 10), dc ((am Y M + D) / 100), dc ((am Y M + D) % 100 / 10), dc ((am Y M + D) % 100 % 10)] := by
  obtain ⟨o1, o2, -⟩ := ord_bd h
  have y0 := h.y0
  have e1 : (Y % 10 * 10 + (am Y M + D) / 100) / 10 = Y % 10 := by omega
  have e2 : (Y % 10 * 10 + (am Y M + D) / 100) % 10 = (am Y M + D) / 100 := by omega
  simp only [juL, prL, List.flatMap_cons, List.flatMap_nil, List.append_nil, List.cons_append, List.nil_append, e1, e2]
theorem dg_ju {n Y M D : Int} (h : IsDay n Y M D) : Dg (juL Y M D) := by
  obtain ⟨o1, o2, -⟩ := ord_bd h
  have y0 := h.y0
  rw [ju_form h]
  generalize am Y M + D = o at *
  have k : ∀ x : Int, 0 ≤ x → x ≤ 9 → 48 ≤ (dc x).toNat ∧ (dc x).toNat ≤ 57 := fun x h0 h1 => by have := dc_nat x h0 h1; omega
  intro c hc
  simp at hc
  rcases hc with rfl | rfl | rfl | rfl
  · exact k _ (by omega) (by omega)
  · exact k _ (by omega) (by omega)
  · exact k _ (by omega) (by omega)
  · exact k _ (by omega) (by omega)
theorem dc_inj {x y : Int} (h0 : 0 ≤ x) (h1 : x ≤ 9) (k0 : 0 ≤ y) (k1 : y ≤ 9) (e : dc x = dc y) : x = y := by
  have a := dc_nat x h0 h1; have b := dc_nat y k0 k1
  rw [e] at a
  omega
theorem ju_next {n Y M D Y' M' D' : Int} (h : IsDay n Y M D) (h' : IsDay (n + 1) Y' M' D') : juL Y M D ≠ juL Y' M' D' := by
  intro e
  rw [ju_form h, ju_form h'] at e
  obtain ⟨o1, o2, o3⟩ := ord_bd h
  obtain ⟨p1, p2, p3⟩ := ord_bd h'
  have a := h.in_year; have b := h'.in_year
  have y0 := h.y0; have y0' := h'.y0
  have hyy : Y ≤ Y' ∧ Y' ≤ Y + 1 := by
    constructor
    · by_cases c : Y' < Y
      · have := ay_mono (y := Y' + 1) (z := Y) (by omega) (by omega); omega
      · omega
    · by_cases c : Y + 1 < Y'
      · have q1 := ay_mono (y := Y + 1) (z := Y') (by omega) (by omega)
        omega
      · omega
  generalize am Y M + D = o at *
  generalize am Y' M' + D' = p at *
  simp only [List.cons.injEq, and_true] at e
  obtain ⟨e0, e1, e2, e3⟩ := e
  have f0 := dc_inj (by omega) (by omega) (by omega) (by omega) e0
  have f1 := dc_inj (by omega) (by omega) (by omega) (by omega) e1
  have f2 := dc_inj (by omega) (by omega) (by omega) (by omega) e2
  have f3 := dc_inj (by omega) (by omega) (by omega) (by omega) e3
  have : Y = Y' := by omega
  subst this
  omega
theorem dgs_get : ∀ (m n i : Nat), i < m → (dgs m n)[i]? = some (UInt8.ofNat (48 + n / 10 ^ (m - 1 - i) % 10))
  | 0, n, i, h => by omega
  | m + 1, n, 0, h => by rw [dgs_cons]; simp
  | m + 1, n, i + 1, h => by
    rw [dgs_cons]
    simp only [List.getElem?_cons_succ]
    rw [dgs_get m n i (by omega), show m + 1 - 1 - (i + 1) = m - 1 - i by omega]
/-- a byte of a text -/
theorem byte_at {l : List UInt8} {s : ByteArray} (h : (⟨l.toArray⟩ : ByteArray) = s) (i : Nat) (hi : i < s.size) {c : UInt8} (hc : l[i]? = some c) : s[i] = c := by
  subst h
  have : l[i]'(by simpa [ByteArray.size] using hi) = c := by
    rw [List.getElem?_eq_getElem (by simpa [ByteArray.size] using hi)] at hc
    simpa using hc
  exact this
theorem dig_nat (x : Nat) : (UInt8.ofNat (48 + x % 10)).toNat = 48 + x % 10 := by rw [UInt8.toNat_ofNat']; omega
theorem fold_step (n i : Nat) (h : i < 6) : 10 * (n / 10 ^ (6 - i)) + n / 10 ^ (6 - 1 - i) % 10 = n / 10 ^ (6 - (i + 1)) := by
  have e : n / 10 ^ (6 - i) = n / 10 ^ (6 - (i + 1)) / 10 := by
    rw [Nat.div_div_eq_div_mul, ← Nat.pow_succ, show (6 - (i + 1)).succ = 6 - i by omega]
  rw [e, show 6 - 1 - i = 6 - (i + 1) by omega]
  generalize n / 10 ^ (6 - (i + 1)) = x
  omega
theorem two_dgs (h : Nat) (hh : h < 100) : 10 * (48 + h / 10 ^ 1 % 10 - 48) + (48 + h / 10 ^ 0 % 10) - 48 = h := by simp; omega
/-- the text of a moment and a number -/
structure Tx (t : Int) (n : Nat) (s : ByteArray) (Y M D : Int) : Prop where
  day : IsDay (t / 86400) Y M D
  is : (⟨(juL Y M D ++ dgs 2 (hr t) ++ dgs 6 n).toArray⟩ : ByteArray) = s
theorem Tx.size {t : Int} {n : Nat} {s : ByteArray} {Y M D : Int} (h : Tx t n s Y M D) : s.size = 12 := by
  rw [← h.is]; show (juL Y M D ++ dgs 2 (hr t) ++ dgs 6 n).toArray.size = 12
  simp [juL_len, dgs_length]
theorem Tx.digit {t : Int} {n : Nat} {s : ByteArray} {Y M D : Int} (h : Tx t n s Y M D) (i : Nat) (hi : i < s.size) : 48 ≤ (s[i]).toNat ∧ (s[i]).toNat ≤ 57 := by
  have hl : i < (juL Y M D ++ dgs 2 (hr t) ++ dgs 6 n).length := by rw [h.size] at hi; simp [juL_len, dgs_length]; omega
  have := byte_at h.is i hi (List.getElem?_eq_getElem hl)
  rw [this]
  have hm := List.getElem_mem hl
  rcases List.mem_append.1 hm with hm | hm
  · rcases List.mem_append.1 hm with hm | hm
    · exact dg_ju h.day _ hm
    · exact dg_dgs _ _ _ hm
  · exact dg_dgs _ _ _ hm
theorem Tx.hour {t : Int} {n : Nat} {s : ByteArray} {Y M D : Int} (h : Tx t n s Y M D) (h4 : 4 < s.size) (h5 : 5 < s.size) : (s[4]).toNat = 48 + hr t / 10 % 10 ∧ (s[5]).toNat = 48 + hr t % 10 := by
  have e4 : (juL Y M D ++ dgs 2 (hr t) ++ dgs 6 n)[4]? = some (UInt8.ofNat (48 + hr t / 10 ^ 1 % 10)) := by
    rw [List.getElem?_append_left (by simp [juL_len, dgs_length]), List.getElem?_append_right (by simp [juL_len]), juL_len, dgs_get _ _ _ (by omega)]
  have e5 : (juL Y M D ++ dgs 2 (hr t) ++ dgs 6 n)[5]? = some (UInt8.ofNat (48 + hr t / 10 ^ 0 % 10)) := by
    rw [List.getElem?_append_left (by simp [juL_len, dgs_length]), List.getElem?_append_right (by simp [juL_len]), juL_len, dgs_get _ _ _ (by omega)]
  rw [byte_at h.is 4 h4 e4, byte_at h.is 5 h5 e5, dig_nat, dig_nat]
  simp
theorem ext_mid (a b : List UInt8) (n m : Nat) (h : a.length = n) (hm : n + b.length = m) : (⟨(a ++ b).toArray⟩ : ByteArray).extract n m = ⟨b.toArray⟩ := by
  apply ByteArray.ext
  rw [ByteArray.data_extract]
  apply Array.ext'
  simp only [Array.toList_extract, List.extract_eq_take_drop]
  rw [List.drop_append_of_le_length (by omega), List.drop_of_length_le (by omega), List.nil_append]
  exact List.take_of_length_le (by omega)
theorem ext_head (a b : List UInt8) (n : Nat) (h : a.length = n) : (⟨(a ++ b).toArray⟩ : ByteArray).extract 0 n = ⟨a.toArray⟩ := by
  apply ByteArray.ext
  rw [ByteArray.data_extract]
  apply Array.ext'
  simp only [Array.toList_extract, List.extract_eq_take_drop, List.drop_zero, Nat.sub_zero]
  rw [List.take_append_of_le_length (by omega)]
  exact List.take_of_length_le (by omega)
theorem Tx.tail {t : Int} {n : Nat} {s : ByteArray} {Y M D : Int} (h : Tx t n s Y M D) : s.extract 6 12 = ⟨(dgs 6 n).toArray⟩ := by
  rw [← h.is]
  exact ext_mid _ _ 6 12 (by simp [juL_len, dgs_length]) (by simp [dgs_length])
theorem Tx.head {t : Int} {n : Nat} {s : ByteArray} {Y M D : Int} (h : Tx t n s Y M D) : s.extract 0 4 = ⟨(juL Y M D).toArray⟩ := by
  rw [← h.is, List.append_assoc]
  exact ext_head _ _ 4 (juL_len Y M D)
theorem hr_next (t : Int) (h0 : 0 ≤ t) : hr (t + 3600) = (hr t + 1) % 24 ∧ (hr t = 23 → (t + 3600) / 86400 = t / 86400 + 1) ∧ (hr t ≠ 23 → (t + 3600) / 86400 = t / 86400) := by
  unfold hr
  refine ⟨by omega, by omega, by omega⟩
end Go.Proofs.YtmnoplaepjaokaaGreatDoor.Ue
/- Regions that draw their order, whose operations leave a class of worlds alone but for the last one, which waits for all others. -/
namespace Go.Proofs.YtmnoplaepjaokaaGreatDoor.Ql
set_option linter.unusedVariables false
set_option linter.unusedSimpArgs false
open Go.RowKit Kb
variable {P : Program} {ops : Array Oper} {md : Region.Mode} {C : World → Prop}
/-- what an operation waits for -/
def deps (md : Region.Mode) (ops : Array Oper) (j : Nat) : List Nat := match ops[j]? with
  | none => []
  | some o => (o.after.filter (Region.binds md)).toList.map (·.on)
def ups (md : Region.Mode) (ops : Array Oper) : Nat → List Nat → List Nat
  | 0, l => l
  | k + 1, l => ups md ops k (l ++ l.flatMap (deps md ops))
/-- all that stands ahead of n is waited for by n -/
def lastB (md : Region.Mode) (ops : Array Oper) (n : Nat) : Bool := (List.range n).all fun j => (ups md ops n (deps md ops n)).contains j
def Closed (md : Region.Mode) (ops : Array Oper) (listed : Array Bool) : Prop := ∀ j, listed.getD j false = true → ∀ d ∈ deps md ops j, listed.getD d false = true
theorem ups_listed {listed : Array Bool} (hc : Closed md ops listed) : ∀ (k : Nat) (l : List Nat), (∀ d ∈ l, listed.getD d false = true) → ∀ d ∈ ups md ops k l, listed.getD d false = true
  | 0, l, h => h
  | k + 1, l, h => ups_listed hc k _ fun d hd => by
    rcases List.mem_append.1 hd with hd | hd
    · exact h d hd
    · obtain ⟨j, hj, hd⟩ := List.mem_flatMap.1 hd
      exact hc j (h j hj) d hd
theorem ready_deps {listed : Array Bool} {j : Nat} (h : j ∈ Region.ready md ops listed) : ∀ d ∈ deps md ops j, listed.getD d false = true := by
  obtain ⟨_, o, ho, hall⟩ := mem_ready.1 h
  intro d hd
  unfold deps at hd
  rw [ho] at hd
  obtain ⟨e, he, rfl⟩ := List.mem_map.1 hd
  have he' := Array.mem_filter.1 (by simpa using he)
  exact hall e he'.1 he'.2
theorem last_all {listed : Array Bool} {n : Nat} (hB : lastB md ops n = true) (hc : Closed md ops listed) (h : n ∈ Region.ready md ops listed) (j : Nat) (hj : j < n) : listed.getD j false = true := by
  have hm := List.all_eq_true.1 hB j (List.mem_range.2 hj)
  exact ups_listed hc n _ (ready_deps h) j (by simpa using hm)
theorem set_true {listed : Array Bool} {i d : Nat} (h : listed.getD d false = true) : (listed.setIfInBounds i true).getD d false = true := getD_set_true h
theorem closed_set {listed : Array Bool} {i : Nat} (hc : Closed md ops listed) (hi : i ∈ Region.ready md ops listed) : Closed md ops (listed.setIfInBounds i true) := by
  intro j hj d hd
  by_cases e : i = j
  · subst e; exact set_true (ready_deps hi d hd)
  · refine set_true (hc j ?_ d hd)
    simpa [Array.getElem?_setIfInBounds, e] using hj
def wpAnyL (P : Program) (md : Region.Mode) (ops : Array Oper) (C : World → Prop) (T : Act → Prop) (n : Nat) : Nat → Array Bool → Act → Prop
  | 0, listed, a => Region.ready md ops listed = [n] ∧ Region.ready md ops (listed.setIfInBounds n true) = [] ∧ T a
  | fuel + 1, listed, a => Region.ready md ops listed ≠ [] ∧ ∀ i ∈ Region.ready md ops listed, qOp P ops C i (wpAnyL P md ops C T n fuel (listed.setIfInBounds i true)) a
theorem wpAny_of_last {T : Act → Prop} {n : Nat} {Q' : Exit → Act → World → Prop} (hT : ∀ a w, C w → T a → wpOp P ops Q' n (fun a' w' => Q' .normal a' w') a w) : ∀ (fuel : Nat) (listed : Array Bool) (a : Act) (w : World), C w →
    wpAnyL P md ops C T n fuel listed a → wpAny P md ops Q' (fuel + 1) listed a w
  | 0, listed, a, w, hw, h => ⟨fun h0 => by rw [h.1] at h0; simp at h0, fun i hi => by
      rw [h.1] at hi
      have : i = n := by simpa using hi
      subst this
      exact wpOp_mono (fun a' w' hq => ⟨h.2.1, hq⟩) (hT a w hw h.2.2)⟩
  | fuel + 1, listed, a, w, hw, h => ⟨fun h0 => absurd h0 h.1, fun i hi => wpOp_of_qOp hw (fun a' w' hw' => wpAny_of_last hT fuel _ a' w' hw') (h.2 i hi)⟩
theorem wpAnyL_first {T : Act → Prop} {n i : Nat} {oi : Oper} {v : Value} (hB : lastB md ops n = true) (hin : i < n) (hi : ops[i]? = some oi) (hsel : ∀ (j : Nat) (o : Oper) cs b, ops[j]? = some o → o.op ≠ .select cs b) :
    ∀ (fuel : Nat) (listed : Array Bool) (a : Act), Closed md ops listed →
      (∀ j oj, ops[j]? = some oj → j ≠ i → listed.getD j true = false → (∀ e ∈ oj.after, Region.binds md e = true → e.on ≠ i) → oi.apart ops oj = true) →
      i ∈ Region.ready md ops listed → YieldsIn P ops C oi v a →
      wpAnyL P md ops C T n fuel (listed.setIfInBounds i true) (a.put oi.dst v) → wpAnyL P md ops C T n (fuel + 1) listed a := by
  intro fuel
  induction fuel with
  | zero =>
    intro listed a hc _ hr hy H
    refine ⟨fun h => (by rw [h] at hr; cases hr), fun j hj => ?_⟩
    by_cases hji : j = i
    · subst hji; exact hy.qOp hi H
    · have h2 := ready_mono hj hji
      rw [H.1] at h2
      have : j = n := by simpa using h2
      subst this
      have h3 := last_all hB hc hj i hin
      have h4 := (mem_ready.1 hr).1
      rcases Nat.lt_or_ge i listed.size with h' | h'
      · simp [h'] at h3 h4; rw [h3] at h4; cases h4
      · simp [Array.getElem?_eq_none h'] at h3
  | succ fuel ih =>
    intro listed a hc hfree hr hy H
    refine ⟨fun h => (by rw [h] at hr; cases hr), fun j hj => ?_⟩
    by_cases hji : j = i
    · subst hji; exact hy.qOp hi H
    · have h1 := H.2 j (ready_mono hj hji)
      obtain ⟨hjun, oj, hoj, hall⟩ := mem_ready.1 hj
      have hnot : ∀ e ∈ oj.after, Region.binds md e = true → e.on ≠ i := fun e he hb heq => by
        have h1 := hall e he hb
        have h0 := (mem_ready.1 hr).1
        rw [heq] at h1
        rcases Nat.lt_or_ge i listed.size with h' | h'
        · simp [h'] at h0 h1; rw [h0] at h1; cases h1
        · simp [Array.getElem?_eq_none h'] at h1
      have h2 := qOp_put hoj (hfree j oj hoj hji hjun hnot) (fun cs b => hsel i oi cs b hi) (fun cs b => hsel j oj cs b hoj) hy h1
      have hfree' : ∀ k ok, ops[k]? = some ok → k ≠ i → (listed.setIfInBounds j true).getD k true = false →
          (∀ e ∈ ok.after, Region.binds md e = true → e.on ≠ i) → oi.apart ops ok = true := fun k ok hk hki hun hno => by
        refine hfree k ok hk hki ?_ hno
        by_cases hjk : j = k
        · subst hjk; exact hjun
        · rw [getD_set_ne true hjk] at hun; exact hun
      refine qOp_mono (fun a' h3 => ih (listed.setIfInBounds j true) a' (closed_set hc hj) hfree' (ready_mono hr (Ne.symm hji)) h3.1 ?_) h2
      rw [Array.setIfInBounds_comm _ _ hji]
      exact h3.2
def lexL (md : Region.Mode) (ops : Array Oper) (n : Nat) : Nat → Nat → Array Bool → Bool
  | 0, k, listed => Region.ready md ops listed == [n] && Region.ready md ops (listed.setIfInBounds n true) == []
  | fuel + 1, k, listed => (Region.ready md ops listed).contains k && Region.free md ops listed k && lexL md ops n fuel (k + 1) (listed.setIfInBounds k true)
theorem wpAnyL_lex {T : Act → Prop} {n : Nat} (hB : lastB md ops n = true) (hs : Region.noSelect ops = true) : ∀ (l : List Oper) (k : Nat) (listed : Array Bool) (a : Act), k + l.length = n → Closed md ops listed → (∀ j, j < l.length → l[j]? = ops[k + j]?) →
    lexL md ops n l.length k listed = true → wpQuiet P ops C T l a → wpAnyL P md ops C T n l.length listed a
  | [], _, _, _, _, _, _, hL, h => by
    simp only [List.length_nil, lexL, Bool.and_eq_true, beq_iff_eq] at hL
    exact ⟨hL.1, hL.2, h⟩
  | o :: l, k, listed, a, hn, hc, hl, hL, h => by
    have h0 : ops[k]? = some o := by simpa using (hl 0 (by simp)).symm
    simp only [List.length_cons, lexL, Bool.and_eq_true] at hL
    obtain ⟨⟨hr, hf⟩, hL'⟩ := hL
    have hr' : k ∈ Region.ready md ops listed := by simpa using hr
    have hst : qOp P ops C k (wpQuiet P ops C T l) a := by unfold qOp; simp only [h0]; exact h
    obtain ⟨v, hy, hK⟩ := yieldsIn_of_qOp h0 hst
    simp only [List.length_cons] at hn
    exact wpAnyL_first hB (by omega) h0 (Region.noSelect_spec hs) l.length listed a hc (Region.free_spec h0 hf) hr' hy
      (wpAnyL_lex hB hs l (k + 1) _ _ (by omega) (closed_set hc hr') (fun j hj => by have := hl (j + 1) (by simp; omega); simpa [Nat.add_assoc, Nat.add_comm 1 j] using this) hL' hK)
theorem closed_zero (n : Nat) : Closed md ops (Array.replicate n false) := by
  intro j hj
  rcases Nat.lt_or_ge j n with h | h
  · simp [h] at hj
  · simp [Array.getElem?_eq_none (show (Array.replicate n false).size ≤ j by simp; omega)] at hj
/-- the region: all but the last in the order of the text, then the last -/
theorem region_last {id : Nat} {Q : Exit → Act → World → Prop} {a : Act} {w : World} {l : List Oper} {o : Oper} (hm : P.follows .mixedOrders = true)
    (hs : Region.noSelect (l ++ [o]).toArray = true) (hB : lastB .any (l ++ [o]).toArray l.length = true) (hL : lexL .any (l ++ [o]).toArray l.length l.length 0 (Array.replicate (l.length + 1) false) = true) (hg : o.guard = none)
    (hC : C w.drew) (h : wpQuiet P (l ++ [o]).toArray C (fun a' => ∀ y, C y → o.wp P a' y (fun a'' y' => Q .normal a'' y') Q) l a) : (Code.region id (l ++ [o]).toArray true).wp P Q a w := by
  refine wp_region_any hm ?_
  have hsz : (l ++ [o]).toArray.size = l.length + 1 := by simp
  rw [hsz]
  refine wpAny_of_last (C := C) (T := fun a' => ∀ y, C y → o.wp P a' y (fun a'' y' => Q .normal a'' y') Q) (n := l.length) ?_ l.length _ a _ hC ?_
  · intro a' y hy hT
    unfold wpOp
    rw [show (l ++ [o]).toArray[l.length]? = some o by simp]
    simp only
    rw [if_pos (by simp [Region.wanted, hg])]
    exact .inl (hT y hy)
  · exact wpAnyL_lex hB hs l 0 _ a (by simp) (closed_zero _) (fun j hj => by rw [Nat.zero_add, List.getElem?_toArray, List.getElem?_append_left hj]) hL h
theorem region_lastL {id : Nat} {Q : Exit → Act → World → Prop} {a : Act} {w : World} {L : List Oper} {o : Oper} (hm : P.follows .mixedOrders = true) (hlast : L = L.dropLast ++ [o])
    (hs : Region.noSelect L.toArray = true) (hB : lastB .any L.toArray L.dropLast.length = true) (hL : lexL .any L.toArray L.dropLast.length L.dropLast.length 0 (Array.replicate (L.dropLast.length + 1) false) = true) (hg : o.guard = none)
    (hC : C w.drew) (h : wpQuiet P L.toArray C (fun a' => ∀ y, C y → o.wp P a' y (fun a'' y' => Q .normal a'' y') Q) L.dropLast a) : (Code.region id L.toArray true).wp P Q a w := by
  generalize L.dropLast = l at *
  subst hlast
  exact region_last hm hs hB hL hg hC h
def wpAnyM (P : Program) (md : Region.Mode) (ops : Array Oper) (C : World → Prop) (T : Act → Prop) (n : Nat) : Nat → Array Bool → Act → Prop
  | 0, listed, a => Region.ready md ops listed = [n] ∧ (Region.ready md ops (listed.setIfInBounds n true) = [n + 1] ∧ Region.ready md ops ((listed.setIfInBounds n true).setIfInBounds (n + 1) true) = []) ∧ T a
  | fuel + 1, listed, a => Region.ready md ops listed ≠ [] ∧ ∀ i ∈ Region.ready md ops listed, qOp P ops C i (wpAnyM P md ops C T n fuel (listed.setIfInBounds i true)) a
theorem wpAny_of_last2 {T : Act → Prop} {n : Nat} {Q' : Exit → Act → World → Prop} (hT : ∀ a w, C w → T a → wpOp P ops Q' n (fun a' w' => wpOp P ops Q' (n + 1) (fun a'' w'' => Q' .normal a'' w'') a' w') a w) : ∀ (fuel : Nat) (listed : Array Bool) (a : Act) (w : World), C w →
    wpAnyM P md ops C T n fuel listed a → wpAny P md ops Q' (fuel + 2) listed a w
  | 0, listed, a, w, hw, h => ⟨fun h0 => by rw [h.1] at h0; simp at h0, fun i hi => by
      rw [h.1] at hi
      have : i = n := by simpa using hi
      subst this
      refine wpOp_mono (fun a' w' hq => ?_) (hT a w hw h.2.2)
      refine ⟨fun h0 => by rw [h.2.1.1] at h0; simp at h0, fun k hk => ?_⟩
      rw [h.2.1.1] at hk
      have : k = i + 1 := by simpa using hk
      subst this
      exact wpOp_mono (fun a' w' hq => ⟨h.2.1.2, hq⟩) hq⟩
  | fuel + 1, listed, a, w, hw, h => ⟨fun h0 => absurd h0 h.1, fun i hi => wpOp_of_qOp hw (fun a' w' hw' => wpAny_of_last2 hT fuel _ a' w' hw') (h.2 i hi)⟩
theorem wpAnyM_first {T : Act → Prop} {n i : Nat} {oi : Oper} {v : Value} (hB : lastB md ops n = true) (hin : i < n) (hi : ops[i]? = some oi) (hsel : ∀ (j : Nat) (o : Oper) cs b, ops[j]? = some o → o.op ≠ .select cs b) :
    ∀ (fuel : Nat) (listed : Array Bool) (a : Act), Closed md ops listed →
      (∀ j oj, ops[j]? = some oj → j ≠ i → listed.getD j true = false → (∀ e ∈ oj.after, Region.binds md e = true → e.on ≠ i) → oi.apart ops oj = true) →
      i ∈ Region.ready md ops listed → YieldsIn P ops C oi v a →
      wpAnyM P md ops C T n fuel (listed.setIfInBounds i true) (a.put oi.dst v) → wpAnyM P md ops C T n (fuel + 1) listed a := by
  intro fuel
  induction fuel with
  | zero =>
    intro listed a hc _ hr hy H
    refine ⟨fun h => (by rw [h] at hr; cases hr), fun j hj => ?_⟩
    by_cases hji : j = i
    · subst hji; exact hy.qOp hi H
    · have h2 := ready_mono hj hji
      rw [H.1] at h2
      have : j = n := by simpa using h2
      subst this
      have h3 := last_all hB hc hj i hin
      have h4 := (mem_ready.1 hr).1
      rcases Nat.lt_or_ge i listed.size with h' | h'
      · simp [h'] at h3 h4; rw [h3] at h4; cases h4
      · simp [Array.getElem?_eq_none h'] at h3
  | succ fuel ih =>
    intro listed a hc hfree hr hy H
    refine ⟨fun h => (by rw [h] at hr; cases hr), fun j hj => ?_⟩
    by_cases hji : j = i
    · subst hji; exact hy.qOp hi H
    · have h1 := H.2 j (ready_mono hj hji)
      obtain ⟨hjun, oj, hoj, hall⟩ := mem_ready.1 hj
      have hnot : ∀ e ∈ oj.after, Region.binds md e = true → e.on ≠ i := fun e he hb heq => by
        have h1 := hall e he hb
        have h0 := (mem_ready.1 hr).1
        rw [heq] at h1
        rcases Nat.lt_or_ge i listed.size with h' | h'
        · simp [h'] at h0 h1; rw [h0] at h1; cases h1
        · simp [Array.getElem?_eq_none h'] at h1
      have h2 := qOp_put hoj (hfree j oj hoj hji hjun hnot) (fun cs b => hsel i oi cs b hi) (fun cs b => hsel j oj cs b hoj) hy h1
      have hfree' : ∀ k ok, ops[k]? = some ok → k ≠ i → (listed.setIfInBounds j true).getD k true = false →
          (∀ e ∈ ok.after, Region.binds md e = true → e.on ≠ i) → oi.apart ops ok = true := fun k ok hk hki hun hno => by
        refine hfree k ok hk hki ?_ hno
        by_cases hjk : j = k
        · subst hjk; exact hjun
        · rw [getD_set_ne true hjk] at hun; exact hun
      refine qOp_mono (fun a' h3 => ih (listed.setIfInBounds j true) a' (closed_set hc hj) hfree' (ready_mono hr (Ne.symm hji)) h3.1 ?_) h2
      rw [Array.setIfInBounds_comm _ _ hji]
      exact h3.2
def lexM (md : Region.Mode) (ops : Array Oper) (n : Nat) : Nat → Nat → Array Bool → Bool
  | 0, k, listed => Region.ready md ops listed == [n] && (Region.ready md ops (listed.setIfInBounds n true) == [n + 1] && Region.ready md ops ((listed.setIfInBounds n true).setIfInBounds (n + 1) true) == [])
  | fuel + 1, k, listed => (Region.ready md ops listed).contains k && Region.free md ops listed k && lexM md ops n fuel (k + 1) (listed.setIfInBounds k true)
theorem wpAnyM_lex {T : Act → Prop} {n : Nat} (hB : lastB md ops n = true) (hs : Region.noSelect ops = true) : ∀ (l : List Oper) (k : Nat) (listed : Array Bool) (a : Act), k + l.length = n → Closed md ops listed → (∀ j, j < l.length → l[j]? = ops[k + j]?) →
    lexM md ops n l.length k listed = true → wpQuiet P ops C T l a → wpAnyM P md ops C T n l.length listed a
  | [], _, _, _, _, _, _, hL, h => by
    simp only [List.length_nil, lexM, Bool.and_eq_true, beq_iff_eq] at hL
    exact ⟨hL.1, hL.2, h⟩
  | o :: l, k, listed, a, hn, hc, hl, hL, h => by
    have h0 : ops[k]? = some o := by simpa using (hl 0 (by simp)).symm
    simp only [List.length_cons, lexM, Bool.and_eq_true] at hL
    obtain ⟨⟨hr, hf⟩, hL'⟩ := hL
    have hr' : k ∈ Region.ready md ops listed := by simpa using hr
    have hst : qOp P ops C k (wpQuiet P ops C T l) a := by unfold qOp; simp only [h0]; exact h
    obtain ⟨v, hy, hK⟩ := yieldsIn_of_qOp h0 hst
    simp only [List.length_cons] at hn
    exact wpAnyM_first hB (by omega) h0 (Region.noSelect_spec hs) l.length listed a hc (Region.free_spec h0 hf) hr' hy
      (wpAnyM_lex hB hs l (k + 1) _ _ (by omega) (closed_set hc hr') (fun j hj => by have := hl (j + 1) (by simp; omega); simpa [Nat.add_assoc, Nat.add_comm 1 j] using this) hL' hK)
/-- the region: all but the last two in the order of the text, then these -/
theorem region_two {id : Nat} {Q : Exit → Act → World → Prop} {a : Act} {w : World} {l : List Oper} {o o2 : Oper} (hm : P.follows .mixedOrders = true)
    (hs : Region.noSelect (l ++ [o, o2]).toArray = true) (hB : lastB .any (l ++ [o, o2]).toArray l.length = true) (hL : lexM .any (l ++ [o, o2]).toArray l.length l.length 0 (Array.replicate (l.length + 2) false) = true) (hg : o.guard = none) (hg2 : o2.guard = none)
    (hC : C w.drew) (h : wpQuiet P (l ++ [o, o2]).toArray C (fun a' => ∀ y, C y → o.wp P a' y (fun a'' y' => o2.wp P a'' y' (fun a3 y3 => Q .normal a3 y3) Q) Q) l a) : (Code.region id (l ++ [o, o2]).toArray true).wp P Q a w := by
  refine wp_region_any hm ?_
  have hsz : (l ++ [o, o2]).toArray.size = l.length + 2 := by simp
  rw [hsz]
  refine wpAny_of_last2 (C := C) (T := fun a' => ∀ y, C y → o.wp P a' y (fun a'' y' => o2.wp P a'' y' (fun a3 y3 => Q .normal a3 y3) Q) Q) (n := l.length) ?_ l.length _ a _ hC ?_
  · intro a' y hy hT
    unfold wpOp
    rw [show (l ++ [o, o2]).toArray[l.length]? = some o by simp, show (l ++ [o, o2]).toArray[l.length + 1]? = some o2 by simp]
    simp only
    rw [if_pos (by simp [Region.wanted, hg])]
    refine .inl (Oper.wp_mono (fun a'' y' hq => ?_) (hT y hy))
    rw [if_pos (by simp [Region.wanted, hg2])]
    exact .inl hq
  · exact wpAnyM_lex hB hs l 0 _ a (by simp) (closed_zero _) (fun j hj => by rw [Nat.zero_add, List.getElem?_toArray, List.getElem?_append_left hj]) hL h
theorem region_twoL {id : Nat} {Q : Exit → Act → World → Prop} {a : Act} {w : World} {L : List Oper} {o o2 : Oper} (hm : P.follows .mixedOrders = true) (hlast : L = L.dropLast.dropLast ++ [o, o2])
    (hs : Region.noSelect L.toArray = true) (hB : lastB .any L.toArray L.dropLast.dropLast.length = true) (hL : lexM .any L.toArray L.dropLast.dropLast.length L.dropLast.dropLast.length 0 (Array.replicate (L.dropLast.dropLast.length + 2) false) = true) (hg : o.guard = none) (hg2 : o2.guard = none)
    (hC : C w.drew) (h : wpQuiet P L.toArray C (fun a' => ∀ y, C y → o.wp P a' y (fun a'' y' => o2.wp P a'' y' (fun a3 y3 => Q .normal a3 y3) Q) Q) L.dropLast.dropLast a) : (Code.region id L.toArray true).wp P Q a w := by
  generalize L.dropLast.dropLast = l at *
  subst hlast
  exact region_two hm hs hB hL hg hg2 hC h
/-- the worlds behind x: below its size as x is -/
def Cl (x : World) : World → Prop := fun y => Below x.heap.size x y
theorem region_cl {id : Nat} {Q : Exit → Act → World → Prop} {a : Act} {x : World} {l : List Oper} (hm : P.follows .mixedOrders = true) (hB : Region.lexB .any l.toArray = true)
    (h : wpQuiet P l.toArray (Cl x) (fun a' => ∀ y, Cl x y → Q .normal a' y) l a) : (Code.region id l.toArray true).wp P Q a x :=
  wp_region_quiet (C := Cl x) hm hB ((Below.refl _ _).drew : Below x.heap.size x x.drew) (by simpa using h)
theorem q_row {o : Oper} {a : Act} {x : World} {K : Act → Prop} (hw : Region.wanted o (yielded ops a.tmps) = true) (ty : TypeId) (xo : Operand) (ho : o.op = .load ty xo)
    (g : Nat) (hx : a.eval xo = .pointer (some ⟨g, 0, none⟩)) (t : TypeId) (cs : Array Value) (fr : Nat × Nat) (d : TypeDesc) (hg : x.heap[g]? = some (.cells cs t fr))
    (hu : P.underlying ty = some d) (hd : (match d with | .struct _ | .array _ _ => true | _ => false) = true) (hi : (P.info? ty).map (·.size) = some cs.size)
    (h : K (a.put o.dst (.agg cs))) : if Region.wanted o (yielded ops a.tmps) then o.quiet P a (Cl x) K else K (a.put o.dst undef) := by
  rw [if_pos hw]
  refine ⟨.agg cs, fun y hy => ?_, h⟩
  unfold Oper.quietAt execOp
  have hl := run_loadVar_row (P := P) y g t ty cs fr d (kept hy hg) hu hd hi
  simp only [ho, hx, Instr.loadAt, Instr.sureAddr, Sem.run_bind, Sem.run_pure, Result.andThen_ok, hl]
  exact ⟨rfl, rfl⟩
theorem q_cell {o : Oper} {a : Act} {x : World} {K : Act → Prop} (hw : Region.wanted o (yielded ops a.tmps) = true) (ty : TypeId) (xo : Operand) (ho : o.op = .load ty xo)
    (b k : Nat) (hx : a.eval xo = .pointer (some ⟨b, k, none⟩)) (v : Value) (hc : x.cell? ⟨b, k, none⟩ = some v) (hb : b < x.heap.size) (hag : ∀ y, (isAgg ty).run P y = .ok false y)
    (h : K (a.put o.dst v)) : if Region.wanted o (yielded ops a.tmps) then o.quiet P a (Cl x) K else K (a.put o.dst undef) := by
  rw [if_pos hw]
  refine ⟨v, fun y hy => ?_, h⟩
  unfold Oper.quietAt execOp
  have hy' : y.cell? ⟨b, k, none⟩ = some v := keepC hy hc hb
  simp [ho, hx, Instr.loadAt, Instr.sureAddr, loadVar, hag, hy', Oper.quietUpon]
theorem cl_of {f : FuncId} {args : Array Value} {x y : World} {v : Value} (hy : Cl x y) (h : Calls P f args y fun e y' => e = .returned v ∧ Below y.heap.size y y') :
    Calls P f args y fun e y' => e = .returned v ∧ Cl x y' := h.mono fun e y' hh => ⟨hh.1, keepB hy hh.2⟩
theorem cl_same {f : FuncId} {args : Array Value} {x y : World} {v : Value} (hy : Cl x y) (h : Calls P f args y fun e y' => e = .returned v ∧ y' = y) :
    Calls P f args y fun e y' => e = .returned v ∧ Cl x y' := h.mono fun e y' hh => ⟨hh.1, hh.2 ▸ hy⟩
end Go.Proofs.YtmnoplaepjaokaaGreatDoor.Ql
