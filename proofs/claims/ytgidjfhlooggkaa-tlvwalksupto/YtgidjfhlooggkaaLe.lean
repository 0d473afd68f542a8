/- The laws' lend: nodes in memory of their own, three marked ones behind each list. -/
import Derived.Test.YtgidjfhlooggkaaBp
import Derived.Test.YtgidjfhlooggkaaGd
namespace Go.Proofs.Ytgidjfhlooggkaa.Le
set_option linter.unusedVariables false
set_option linter.unusedSimpArgs false
open Go.RowKit Kb Gd Nt Li Bo
/-- a lent list -/
def LR (w : World) (base : Nat) (v : Value) (ts : List AT) : Prop := ∃ g cap, v = .slice (some ⟨g, 0, none⟩) ts.length cap ∧ w.ownsRow base 40 3 (.slice (some ⟨g, 0, none⟩) (ts.length + 3) cap) (ts.length + 3) (cs ts ++ mkC (-7) 3) ∧ ts.length ≤ 1048576
def lnt (w : World) (base : Nat) : List AT → Prop
  | [] => True
  | .mk t v kv ks :: ts => (LR w base kv ks ∧ lnt w base ks ∧ v.size ≤ 1048576 ∧ tagB t) ∧ lnt w base ts
structure Lnt (w : World) (base : Nat) (v : Value) (ts : List AT) : Prop where
  row : LR w base v ts
  kids : lnt w base ts
  apart : (v.ownBlock.toList ++ fp ts).Nodup
/-- the list is still open: no marks yet -/
structure Half (w : World) (base : Nat) (v : Value) (ts : List AT) : Prop where
  row : w.ownsRow base 40 3 v ts.length (cs ts)
  kids : lnt w base ts
  apart : (v.ownBlock.toList ++ fp ts).Nodup
theorem LR.keep {w w' : World} {base : Nat} {v : Value} {ts : List AT} (h : LR w base v ts) (k : ∀ b, v.ownBlock = some b → w'.heap[b]? = w.heap[b]?) : LR w' base v ts := by
  obtain ⟨g, cap, rfl, h1, h2⟩ := h
  exact ⟨g, cap, rfl, owns_keep h1 fun b hb => k b (by simpa [Value.ownBlock] using hb), h2⟩
theorem LR.base {w : World} {base b' : Nat} {v : Value} {ts : List AT} (h : LR w base v ts) (hb : b' ≤ base) : LR w b' v ts := by
  obtain ⟨g, cap, rfl, h1, h2⟩ := h
  exact ⟨g, cap, rfl, owns_base hb h1, h2⟩
theorem LR.lt {w : World} {base : Nat} {v : Value} {ts : List AT} (h : LR w base v ts) : ∀ b, v.ownBlock = some b → base ≤ b ∧ b < w.heap.size := by
  obtain ⟨g, cap, rfl, h1, h2⟩ := h
  intro b hb
  exact h1.lt b (by simpa [Value.ownBlock] using hb)
theorem lnt_keep {w w' : World} {base : Nat} : ∀ (ts : List AT), (∀ b ∈ fp ts, w'.heap[b]? = w.heap[b]?) → lnt w base ts → lnt w' base ts
  | [], _, _ => by unfold lnt; trivial
  | .mk t v kv ks :: ts, k, h => by
    unfold lnt at h ⊢
    simp only [fp] at k
    exact ⟨⟨h.1.1.keep fun b hb => k b (by simp [hb]), lnt_keep ks (fun b hb => k b (by simp [hb])) h.1.2.1, h.1.2.2⟩, lnt_keep ts (fun b hb => k b (by simp [hb])) h.2⟩
theorem lnt_base {w : World} {base b' : Nat} (hb : b' ≤ base) : ∀ (ts : List AT), lnt w base ts → lnt w b' ts
  | [], _ => by unfold lnt; trivial
  | .mk t v kv ks :: ts, h => by
    unfold lnt at h ⊢
    exact ⟨⟨h.1.1.base hb, lnt_base hb ks h.1.2.1, h.1.2.2⟩, lnt_base hb ts h.2⟩
theorem lnt_lt {w : World} {base : Nat} : ∀ (ts : List AT), lnt w base ts → ∀ b ∈ fp ts, base ≤ b ∧ b < w.heap.size
  | [], _, b, hb => by simp [fp] at hb
  | .mk t v kv ks :: ts, h, b, hb => by
    unfold lnt at h
    simp only [fp, List.mem_append, Option.mem_toList] at hb
    rcases hb with (hb | hb) | hb
    · exact h.1.1.lt b hb
    · exact lnt_lt ks h.1.2.1 b hb
    · exact lnt_lt ts h.2 b hb
theorem lnt_append {w : World} {base : Nat} : ∀ (a b : List AT), lnt w base a → lnt w base b → lnt w base (a ++ b)
  | [], b, _, h => h
  | .mk t v k ks :: a, b, h, hb => by
    simp only [List.cons_append, lnt] at h ⊢
    exact ⟨h.1, lnt_append a b h.2 hb⟩
theorem Lnt.lt {w : World} {base : Nat} {v : Value} {ts : List AT} (h : Lnt w base v ts) : ∀ b ∈ v.ownBlock.toList ++ fp ts, base ≤ b ∧ b < w.heap.size := fun b hb => by
  rcases List.mem_append.1 hb with hb | hb
  · exact h.row.lt b (by simpa using hb)
  · exact lnt_lt ts h.kids b hb
theorem Half.lt {w : World} {base : Nat} {v : Value} {ts : List AT} (h : Half w base v ts) : ∀ b ∈ v.ownBlock.toList ++ fp ts, base ≤ b ∧ b < w.heap.size := fun b hb => by
  rcases List.mem_append.1 hb with hb | hb
  · exact h.row.lt b (by simpa using hb)
  · exact lnt_lt ts h.kids b hb
theorem Lnt.keep {w w' : World} {base : Nat} {v : Value} {ts : List AT} (h : Lnt w base v ts) (k : ∀ b ∈ v.ownBlock.toList ++ fp ts, w'.heap[b]? = w.heap[b]?) : Lnt w' base v ts :=
  ⟨h.row.keep fun b hb => k b (by simp [hb]), lnt_keep ts (fun b hb => k b (by simp [hb])) h.kids, h.apart⟩
theorem Lnt.base {w : World} {base b' : Nat} {v : Value} {ts : List AT} (h : Lnt w base v ts) (hb : b' ≤ base) : Lnt w b' v ts := ⟨h.row.base hb, lnt_base hb ts h.kids, h.apart⟩
theorem Lnt.below {w w' : World} {base : Nat} {v : Value} {ts : List AT} (h : Lnt w base v ts) (hb : Below w.heap.size w w') : Lnt w' base v ts := h.keep fun b hm => hb.block b (h.lt b hm).2
theorem Half.keep {w w' : World} {base : Nat} {v : Value} {ts : List AT} (h : Half w base v ts) (k : ∀ b ∈ v.ownBlock.toList ++ fp ts, w'.heap[b]? = w.heap[b]?) : Half w' base v ts :=
  ⟨owns_keep h.row fun b hb => k b (by simp [hb]), lnt_keep ts (fun b hb => k b (by simp [hb])) h.kids, h.apart⟩
theorem Half.below {w w' : World} {base : Nat} {v : Value} {ts : List AT} (h : Half w base v ts) (hb : Below w.heap.size w w') : Half w' base v ts := h.keep fun b hm => hb.block b (h.lt b hm).2
theorem half_nil (w : World) (base : Nat) : Half w base (.slice none 0 0) [] := ⟨World.ownsRow_nil w base _ _, by unfold lnt; trivial, by simp [Value.ownBlock, fp]⟩
/-- one more -/
theorem half_push {x y : World} {base base2 g cap : Nat} {v kv : Value} {ts ks : List AT} {t : Int} {val : ByteArray} {o : Obj} (h : Half x base v ts) (k : Lnt x base2 kv ks) (hlt : ∀ b ∈ v.ownBlock.toList ++ fp ts, b < base2) (hbb : base ≤ base2)
    (hv : val.size ≤ 1048576) (ht : tagB t) (gr : (x.alloc o).grownBy y v.ownBlock)
    (own : y.ownsRow base 40 3 (.slice (some ⟨g, 0, none⟩) (ts.length + 1) cap) (ts.length + 1) (cs ts ++ [.int .i64 t, .string val, kv])) (hat : v.ownBlock = some g ∨ g = x.heap.size + 1) :
    Half y base (.slice (some ⟨g, 0, none⟩) (ts ++ [AT.mk t val kv ks]).length cap) (ts ++ [AT.mk t val kv ks]) := by
  have same : ∀ b, b < x.heap.size → v.ownBlock ≠ some b → y.heap[b]? = x.heap[b]? := fun b hb hne => by
    rw [gr.block b (by simp; omega) (fun e => hne e.symm)]
    exact Below.heap_alloc x o b hb
  have hl := h.lt
  have kl := k.lt
  have nd := List.nodup_append.1 h.apart
  have e1 : ∀ b ∈ fp ts, y.heap[b]? = x.heap[b]? := fun b hb => same b (hl b (by simp [hb])).2 (fun e => nd.2.2 b (by simp [e]) b hb rfl)
  have e2 : ∀ b ∈ kv.ownBlock.toList ++ fp ks, y.heap[b]? = x.heap[b]? := fun b hb => same b (kl b hb).2 (fun e => by have := hlt b (by simp [e]); have := (kl b hb).1; omega)
  have k' := k.keep e2
  refine ⟨?_, ?_, ?_⟩
  · rw [List.length_append, cs_append]
    exact own
  · refine lnt_append _ _ (lnt_keep ts e1 h.kids) ?_
    simp only [lnt]
    exact ⟨⟨k'.row.base hbb, lnt_base hbb ks k'.kids, hv, ht⟩, trivial⟩
  · have hg : ∀ b ∈ fp ts ++ (kv.ownBlock.toList ++ fp ks), g ≠ b := fun b hb e => by
      subst e
      rcases List.mem_append.1 hb with hb | hb
      · rcases hat with hat | hat
        · exact nd.2.2 g (by simp [hat]) g hb rfl
        · have := (hl g (by simp [hb])).2; omega
      · rcases hat with hat | hat
        · have := hlt g (by simp [hat]); have := (kl g hb).1; omega
        · have := (kl g hb).2; omega
    simp only [fp_append, fp, Value.ownBlock, Option.toList, List.append_nil, List.singleton_append]
    rw [List.nodup_cons]
    refine ⟨fun hm => hg g hm rfl, ?_⟩
    rw [List.nodup_append]
    refine ⟨nd.2.1, k.apart, fun a ha b hb e => ?_⟩
    subst e
    have := hlt a (by simp [ha])
    have := (kl a hb).1
    omega
/-- the marks are laid behind -/
theorem half_lent {x y : World} {base g cap : Nat} {v : Value} {ts : List AT} {o : Obj} (h : Half x base v ts) (hf : ts.length ≤ 1048576) (gr : (x.alloc o).grownBy y v.ownBlock)
    (own : y.ownsRow base 40 3 (.slice (some ⟨g, 0, none⟩) (ts.length + 3) cap) (ts.length + 3) (cs ts ++ mkC (-7) 3)) (hat : v.ownBlock = some g ∨ g = x.heap.size + 1) :
    Lnt y base (.slice (some ⟨g, 0, none⟩) ts.length cap) ts := by
  have hl := h.lt
  have nd := List.nodup_append.1 h.apart
  have e1 : ∀ b ∈ fp ts, y.heap[b]? = x.heap[b]? := fun b hb => by
    rw [gr.block b (by have := (hl b (by simp [hb])).2; simp; omega) (fun e => nd.2.2 b (by simp [← e]) b hb rfl)]
    exact Below.heap_alloc x o b (hl b (by simp [hb])).2
  refine ⟨⟨g, cap, rfl, own, hf⟩, lnt_keep ts e1 h.kids, ?_⟩
  simp only [Value.ownBlock, Option.toList, List.singleton_append]
  rw [List.nodup_cons]
  refine ⟨fun hm => ?_, nd.2.1⟩
  rcases hat with hat | hat
  · exact nd.2.2 g (by simp [hat]) g hm rfl
  · have := (hl g (by simp [hm])).2; omega
theorem row_of {w : World} {base : Nat} {v : Value} {ts : List AT} (h : LR w base v ts) : rowR w v ts := by
  obtain ⟨g, cap, rfl, h1, h2⟩ := h
  refine ⟨some ⟨g, 0, none⟩, cap, rfl, h2, fun i hi => ⟨_, rfl, ?_⟩⟩
  obtain ⟨a0, a1, a2⟩ := cs_at ts i hi
  have hl := cs_len ts
  have hc := h1.cells (g := g) rfl
  rw [add0]
  refine ⟨?_, ?_, ?_⟩
  · rw [← add0]; exact hc _ _ (by rw [List.getElem?_append_left (by omega)]; exact a0)
  · show w.cell? ⟨g, i * 3 + 1, none⟩ = _
    rw [← add0]; exact hc _ _ (by rw [List.getElem?_append_left (by omega)]; exact a1)
  · show w.cell? ⟨g, i * 3 + 2, none⟩ = _
    rw [← add0]; exact hc _ _ (by rw [List.getElem?_append_left (by omega)]; exact a2)
theorem rd_of {w : World} {base : Nat} : ∀ ts : List AT, lnt w base ts → rdL w ts
  | [], _ => by unfold rdL; trivial
  | .mk t v kv ks :: ts, h => by
    unfold lnt at h
    unfold rdL
    exact ⟨⟨row_of h.1.1, rd_of ks h.1.2.1, h.1.2.2.1, h.1.2.2.2⟩, rd_of ts h.2⟩
theorem Lnt.reads {w : World} {base : Nat} {v : Value} {ts : List AT} (h : Lnt w base v ts) : Rdn w v ts := ⟨row_of h.row, rd_of ts h.kids⟩
end Go.Proofs.Ytgidjfhlooggkaa.Le
