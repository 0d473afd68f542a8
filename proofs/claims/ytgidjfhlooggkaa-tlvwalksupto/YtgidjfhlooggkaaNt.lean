/- Nodes as trees, with where their kids lie: what a call owns, and what can be read. -/
import Derived.Test.YtgidjfhlooggkaaKb
import Derived.Deep.AppendLies
namespace Go.Proofs.Ytgidjfhlooggkaa.Nt
set_option linter.unusedVariables false
set_option linter.unusedSimpArgs false
open Go.RowKit Kb
/-- a node: its tag, its value, its kids -/
inductive Tr where
  | mk (tag : Int) (val : ByteArray) (kids : List Tr) : Tr
/-- the same, with the value that stands for its kids -/
inductive AT where
  | mk (tag : Int) (val : ByteArray) (kv : Value) (kids : List AT) : AT
def AT.tag : AT → Int
  | .mk t _ _ _ => t
def AT.val : AT → ByteArray
  | .mk _ v _ _ => v
def AT.kv : AT → Value
  | .mk _ _ k _ => k
def AT.kids : AT → List AT
  | .mk _ _ _ k => k
def er : List AT → List Tr
  | [] => []
  | .mk t v _ ks :: ts => .mk t v (er ks) :: er ts
def cs : List AT → List Value
  | [] => []
  | .mk t v kv _ :: ts => .int .i64 t :: .string v :: kv :: cs ts
/-- the blocks of kids, however deep -/
def fp : List AT → List Nat
  | [] => []
  | .mk _ _ kv ks :: ts => kv.ownBlock.toList ++ fp ks ++ fp ts
def tagB (t : Int) : Prop := -9223372036854775808 ≤ t ∧ t ≤ 9223372036854775807
/-- kids, however deep, are rows of the call's own -/
def ok (w : World) (base : Nat) : List AT → Prop
  | [] => True
  | .mk t v kv ks :: ts => (w.ownsRow base 40 3 kv ks.length (cs ks) ∧ ok w base ks ∧ v.size ≤ 1048576 ∧ tagB t ∧ ks.length ≤ 1048576) ∧ ok w base ts
structure Own (w : World) (base : Nat) (v : Value) (ts : List AT) : Prop where
  row : w.ownsRow base 40 3 v ts.length (cs ts)
  kids : ok w base ts
  apart : (v.ownBlock.toList ++ fp ts).Nodup
  few : ts.length ≤ 1048576
theorem er_len : ∀ ts : List AT, (er ts).length = ts.length
  | [] => by simp [er]
  | .mk _ _ _ _ :: ts => by simp [er, er_len ts]
theorem cs_len : ∀ ts : List AT, (cs ts).length = ts.length * 3
  | [] => by simp [cs]
  | .mk _ _ _ _ :: ts => by simp [cs, cs_len ts]; omega
theorem er_append : ∀ (a b : List AT), er (a ++ b) = er a ++ er b
  | [], b => by simp [er]
  | .mk t v k ks :: a, b => by simp [er, er_append a b]
theorem cs_append : ∀ (a b : List AT), cs (a ++ b) = cs a ++ cs b
  | [], b => by simp [cs]
  | .mk t v k ks :: a, b => by simp [cs, cs_append a b]
theorem fp_append : ∀ (a b : List AT), fp (a ++ b) = fp a ++ fp b
  | [], b => by simp [fp]
  | .mk t v k ks :: a, b => by simp [fp, fp_append a b]
theorem ok_append {w : World} {base : Nat} : ∀ (a b : List AT), ok w base a → ok w base b → ok w base (a ++ b)
  | [], b, _, h => h
  | .mk t v k ks :: a, b, h, hb => by
    simp only [List.cons_append, ok] at h ⊢
    exact ⟨h.1, ok_append a b h.2 hb⟩
theorem owns_keep {w w' : World} {base e size n : Nat} {v : Value} {xs : List Value} (h : w.ownsRow base e size v n xs) (k : ∀ b, v.ownBlock = some b → w'.heap[b]? = w.heap[b]?) : w'.ownsRow base e size v n xs := by
  refine ⟨h.1, ?_⟩
  rcases h.2 with hn | ⟨g, cap, cur, rfl, hb, hg, r⟩
  · exact .inl hn
  · exact .inr ⟨g, cap, cur, rfl, hb, (k g rfl).trans hg, r⟩
theorem owns_base {w : World} {base b' e size n : Nat} {v : Value} {xs : List Value} (hb : b' ≤ base) (h : w.ownsRow base e size v n xs) : w.ownsRow b' e size v n xs := by
  refine ⟨h.1, ?_⟩
  rcases h.2 with hn | ⟨g, cap, cur, rfl, hb2, hg, r⟩
  · exact .inl hn
  · exact .inr ⟨g, cap, cur, rfl, by omega, hg, r⟩
theorem ok_keep {w w' : World} {base : Nat} : ∀ (ts : List AT), (∀ b ∈ fp ts, w'.heap[b]? = w.heap[b]?) → ok w base ts → ok w' base ts
  | [], _, _ => by unfold ok; trivial
  | .mk t v kv ks :: ts, k, h => by
    unfold ok at h ⊢
    simp only [fp] at k
    refine ⟨⟨owns_keep h.1.1 fun b hb => k b (by simp [hb]), ok_keep ks (fun b hb => k b (by simp [hb])) h.1.2.1, h.1.2.2⟩, ok_keep ts (fun b hb => k b (by simp [hb])) h.2⟩
theorem ok_base {w : World} {base b' : Nat} (hb : b' ≤ base) : ∀ (ts : List AT), ok w base ts → ok w b' ts
  | [], _ => by unfold ok; trivial
  | .mk t v kv ks :: ts, h => by
    unfold ok at h ⊢
    exact ⟨⟨owns_base hb h.1.1, ok_base hb ks h.1.2.1, h.1.2.2⟩, ok_base hb ts h.2⟩
theorem ok_lt {w : World} {base : Nat} : ∀ (ts : List AT), ok w base ts → ∀ b ∈ fp ts, base ≤ b ∧ b < w.heap.size
  | [], _, b, hb => by simp [fp] at hb
  | .mk t v kv ks :: ts, h, b, hb => by
    unfold ok at h
    simp only [fp, List.mem_append, Option.mem_toList] at hb
    rcases hb with (hb | hb) | hb
    · exact h.1.1.lt b hb
    · exact ok_lt ks h.1.2.1 b hb
    · exact ok_lt ts h.2 b hb
theorem Own.lt {w : World} {base : Nat} {v : Value} {ts : List AT} (h : Own w base v ts) : ∀ b ∈ v.ownBlock.toList ++ fp ts, base ≤ b ∧ b < w.heap.size := fun b hb => by
  rcases List.mem_append.1 hb with hb | hb
  · exact h.row.lt b (by simpa using hb)
  · exact ok_lt ts h.kids b hb
theorem Own.keep {w w' : World} {base : Nat} {v : Value} {ts : List AT} (h : Own w base v ts) (k : ∀ b ∈ v.ownBlock.toList ++ fp ts, w'.heap[b]? = w.heap[b]?) : Own w' base v ts :=
  ⟨owns_keep h.row fun b hb => k b (by simp [hb]), ok_keep ts (fun b hb => k b (by simp [hb])) h.kids, h.apart, h.few⟩
theorem Own.base {w : World} {base b' : Nat} {v : Value} {ts : List AT} (h : Own w base v ts) (hb : b' ≤ base) : Own w b' v ts := ⟨owns_base hb h.row, ok_base hb ts h.kids, h.apart, h.few⟩
theorem Own.below {w w' : World} {base : Nat} {v : Value} {ts : List AT} (h : Own w base v ts) (hb : Below w.heap.size w w') : Own w' base v ts := h.keep fun b hm => hb.block b (h.lt b hm).2
theorem Own.grown {w w' : World} {base g : Nat} {v : Value} {ts : List AT} (h : Own w base v ts) (hb : w.grownBy w' (some g)) (hg : g < base) : Own w' base v ts := h.keep fun b hm => hb.block b (h.lt b hm).2 (by have := (h.lt b hm).1; intro e; injection e with e; omega)
theorem Own.form {w : World} {base : Nat} {v : Value} {ts : List AT} (h : Own w base v ts) : ∃ o cap, v = .slice o ts.length cap := by
  rcases h.row.2 with ⟨rfl, h0⟩ | ⟨g, cap, cur, rfl, _⟩
  · exact ⟨none, 0, by rw [h0]⟩
  · exact ⟨_, cap, rfl⟩
theorem own_nil (w : World) (base : Nat) : Own w base (.slice none 0 0) [] := ⟨World.ownsRow_nil w base _ _, by unfold ok; trivial, by simp [Value.ownBlock, fp], by simp⟩
/-- one node more -/
theorem own_push {x y : World} {base base2 g cap : Nat} {v kv : Value} {ts ks : List AT} {t : Int} {val : ByteArray} {o : Obj} (h : Own x base v ts) (k : Own x base2 kv ks) (hlt : ∀ b ∈ v.ownBlock.toList ++ fp ts, b < base2) (hbb : base ≤ base2)
    (hv : val.size ≤ 1048576) (ht : tagB t) (hn : ts.length + 1 ≤ 1048576) (gr : (x.alloc o).grownBy y v.ownBlock)
    (own : y.ownsRow base 40 3 (.slice (some ⟨g, 0, none⟩) (ts.length + 1) cap) (ts.length + 1) (cs ts ++ [.int .i64 t, .string val, kv])) (hat : v.ownBlock = some g ∨ g = x.heap.size + 1) :
    Own y base (.slice (some ⟨g, 0, none⟩) (ts ++ [AT.mk t val kv ks]).length cap) (ts ++ [AT.mk t val kv ks]) := by
  have same : ∀ b, b < x.heap.size → v.ownBlock ≠ some b → y.heap[b]? = x.heap[b]? := fun b hb hne => by
    rw [gr.block b (by simp; omega) (fun e => hne e.symm)]
    exact Below.heap_alloc x o b hb
  have hl := h.lt
  have kl := k.lt
  have nd := List.nodup_append.1 h.apart
  have kd := List.nodup_append.1 k.apart
  have e1 : ∀ b ∈ fp ts, y.heap[b]? = x.heap[b]? := fun b hb => same b (hl b (by simp [hb])).2 (fun e => nd.2.2 b (by simp [e]) b hb rfl)
  have e2 : ∀ b ∈ kv.ownBlock.toList ++ fp ks, y.heap[b]? = x.heap[b]? := fun b hb => same b (kl b hb).2 (fun e => by have := hlt b (by simp [e]); have := (kl b hb).1; omega)
  have k' := k.keep e2
  refine ⟨?_, ?_, ?_, by simpa using hn⟩
  · rw [List.length_append, cs_append]
    exact own
  · refine ok_append _ _ (ok_keep ts e1 h.kids) ?_
    simp only [ok]
    exact ⟨⟨owns_base hbb k'.row, ok_base hbb ks k'.kids, hv, ht, k.few⟩, trivial⟩
  · have hg : ∀ b ∈ fp ts ++ (kv.ownBlock.toList ++ fp ks), g ≠ b := fun b hb e => by
      subst e
      rcases List.mem_append.1 hb with hb | hb
      · rcases hat with hat | hat
        · exact nd.2.2 g (by simp [hat]) g hb rfl
        · have := (hl g (by simp [hb])).2; omega
      · rcases hat with hat | hat
        · have := hlt g (by simp [hat]); have := (kl g hb).1; omega
        · have := (kl g hb).2; omega
    simp only [fp_append, fp, Value.ownBlock, Option.toList, List.append_nil, List.singleton_append]
    rw [List.nodup_cons]
    refine ⟨fun hm => hg g hm rfl, ?_⟩
    rw [List.nodup_append]
    refine ⟨nd.2.1, k.apart, fun a ha b hb e => ?_⟩
    subst e
    have := hlt a (by simp [ha])
    have := (kl a hb).1
    omega
/-- a row of nodes that can be read -/
def rowR (w : World) (v : Value) (ts : List AT) : Prop := ∃ (o : Option Addr) (cap : Nat), v = .slice o ts.length cap ∧ ts.length ≤ 1048576 ∧ ∀ i (h : i < ts.length), ∃ a, o = some a ∧
  w.cell? (a.add (i * 3)) = some (.int .i64 ts[i].tag) ∧ w.cell? ⟨(a.add (i * 3)).block, (a.add (i * 3)).off + 1, none⟩ = some (.string ts[i].val) ∧ w.cell? ⟨(a.add (i * 3)).block, (a.add (i * 3)).off + 2, none⟩ = some ts[i].kv
def rdL (w : World) : List AT → Prop
  | [] => True
  | .mk t v kv ks :: ts => (rowR w kv ks ∧ rdL w ks ∧ v.size ≤ 1048576 ∧ tagB t) ∧ rdL w ts
structure Rdn (w : World) (v : Value) (ts : List AT) : Prop where
  row : rowR w v ts
  kids : rdL w ts
theorem rowR_below {w x : World} {v : Value} {ts : List AT} (hb : Below w.heap.size w x) (h : rowR w v ts) : rowR x v ts := by
  obtain ⟨o, cap, e, hl, hc⟩ := h
  have c := fun {p : Addr} {v : Value} (hc : w.cell? p = some v) => (hb.cell (World.block_lt_of_cell? w _ hc)).trans hc
  refine ⟨o, cap, e, hl, fun i hi => ?_⟩
  obtain ⟨a, ea, h0, h1, h2⟩ := hc i hi
  exact ⟨a, ea, c h0, c h1, c h2⟩
theorem rdL_below {w x : World} (hb : Below w.heap.size w x) : ∀ ts : List AT, rdL w ts → rdL x ts
  | [], _ => by unfold rdL; trivial
  | .mk t v kv ks :: ts, h => by
    unfold rdL at h ⊢
    exact ⟨⟨rowR_below hb h.1.1, rdL_below hb ks h.1.2.1, h.1.2.2⟩, rdL_below hb ts h.2⟩
theorem Rdn.below {w x : World} {v : Value} {ts : List AT} (h : Rdn w v ts) (hb : Below w.heap.size w x) : Rdn x v ts := ⟨rowR_below hb h.row, rdL_below hb ts h.kids⟩
theorem cs_at : ∀ (ts : List AT) (i : Nat) (h : i < ts.length), (cs ts)[i * 3]? = some (.int .i64 ts[i].tag) ∧ (cs ts)[i * 3 + 1]? = some (.string ts[i].val) ∧ (cs ts)[i * 3 + 2]? = some ts[i].kv
  | [], i, h => by simp at h
  | .mk t v kv ks :: ts, 0, h => by simp [cs, AT.tag, AT.val, AT.kv]
  | .mk t v kv ks :: ts, i + 1, h => by
    have := cs_at ts i (by simpa using h)
    simp only [cs, List.getElem_cons_succ]
    rw [show (i + 1) * 3 = i * 3 + 1 + 1 + 1 by omega]
    simp only [List.getElem?_cons_succ]
    exact this
theorem add0 (g j : Nat) : (⟨g, 0, none⟩ : Addr).add j = ⟨g, j, none⟩ := by unfold Addr.add; split <;> simp_all
theorem rowR_of {w : World} {base : Nat} {v : Value} {ts : List AT} (h : w.ownsRow base 40 3 v ts.length (cs ts)) (hf : ts.length ≤ 1048576) : rowR w v ts := by
  rcases h.2 with ⟨rfl, h0⟩ | ⟨g, cap, cur, rfl, hb, hg, hn, hm, hs, ht⟩
  · exact ⟨none, 0, by rw [h0], hf, fun i hi => by omega⟩
  · refine ⟨some ⟨g, 0, none⟩, cap, rfl, hf, fun i hi => ⟨_, rfl, ?_⟩⟩
    have c := cs_at ts i hi
    rw [← ht] at c
    rw [add0]
    have e : ∀ j, j < ts.length * 3 → w.cell? ⟨g, j, none⟩ = (cur.toList.take (ts.length * 3))[j]? := fun j hj => by
      rw [cell_of_row w g j cur _ _ hg, List.getElem?_take_of_lt hj]; simp
    refine ⟨?_, ?_, ?_⟩
    · rw [e _ (by omega)]; exact c.1
    · rw [e _ (by simp only; omega)]; exact c.2.1
    · rw [e _ (by simp only; omega)]; exact c.2.2
theorem rdL_of {w : World} {base : Nat} : ∀ ts : List AT, ok w base ts → rdL w ts
  | [], _ => by unfold rdL; trivial
  | .mk t v kv ks :: ts, h => by
    unfold ok at h
    unfold rdL
    exact ⟨⟨rowR_of h.1.1 h.1.2.2.2.2, rdL_of ks h.1.2.1, h.1.2.2.1, h.1.2.2.2.1⟩, rdL_of ts h.2⟩
theorem Own.reads {w : World} {base : Nat} {v : Value} {ts : List AT} (h : Own w base v ts) : Rdn w v ts := ⟨rowR_of h.row h.few, rdL_of ts h.kids⟩
theorem rdL_at {w : World} : ∀ (ts : List AT) (i : Nat) (h : i < ts.length), rdL w ts → Rdn w ts[i].kv ts[i].kids ∧ ts[i].val.size ≤ 1048576 ∧ tagB ts[i].tag
  | [], i, h, _ => by simp at h
  | .mk t v kv ks :: ts, 0, h, hr => by
    unfold rdL at hr
    exact ⟨⟨hr.1.1, hr.1.2.1⟩, hr.1.2.2⟩
  | .mk t v kv ks :: ts, i + 1, h, hr => by
    unfold rdL at hr
    simpa using rdL_at ts i (by simpa using h) hr.2
theorem kids_lt {ts : List AT} {i : Nat} (h : i < ts.length) : SizeOf.sizeOf ts[i].kids < SizeOf.sizeOf ts := by
  have := List.sizeOf_lt_of_mem (List.getElem_mem h)
  cases e : ts[i] with
  | mk t v kv ks =>
    rw [e] at this
    have e2 : SizeOf.sizeOf (AT.mk t v kv ks) = 1 + SizeOf.sizeOf t + SizeOf.sizeOf v + SizeOf.sizeOf kv + SizeOf.sizeOf ks := by simp
    simp only [AT.kids]
    omega
end Go.Proofs.Ytgidjfhlooggkaa.Nt
