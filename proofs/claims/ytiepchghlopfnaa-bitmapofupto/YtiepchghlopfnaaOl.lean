/- BitmapOf's contracts, with letters for the lengths. -/
import Derived.Test.YtiepchghlopfnaaBk
namespace Go.Proofs.Ytiepchghlopfnaa.Ol
set_option linter.unusedVariables false
open Go.RowKit Pla Bm Bn Br Bv Bw Bx Of Ro Sl Rq Bk
theorem shape {w : World} {v : Value} {z : List Int} (h : Lies w v z) : ∃ ob cap, v = .slice ob z.length cap := by
  rcases h with ⟨rfl, rfl⟩ | ⟨a, cap, rfl, _, _, _, _⟩
  · exact ⟨_, _, rfl⟩
  · exact ⟨_, _, rfl⟩
theorem inb {w : World} {v : Value} {z : List Int} (h : Lies w v z) : ∀ x ∈ z, -9223372036854775808 ≤ x ∧ x ≤ 9223372036854775807 := by
  rcases h with ⟨_, rfl⟩ | ⟨_, _, _, _, _, _, hz⟩
  · intro x hx; cases hx
  · exact fun x hx => bounds_i64 (hz x hx)
theorem lentC {z : List Int} {v : Value} {N M : Nat} (hN : N = z.length) (hM : M = N + 8) (hl : z.length ≤ 1048576) (x : World) (h : Lies x v z) :
    Calls Try.prog 10 #[v] x fun e w' => e = .returned (.slice (some ⟨x.heap.size, 0, none⟩) M M) ∧ w' = x.alloc (Obj.cells (inC M (lentF z)) 3) := by
  subst hM hN; exact lent_lies z v x h hl
theorem lt_of_some {x : World} {g : Nat} {o : Obj} (h : x.heap[g]? = some o) : g < x.heap.size := (Array.getElem?_eq_some_iff.1 h).1
theorem ofC1 {z : List Int} {N M : Nat} (hN : N = z.length) (hM : M = N + 8) (hl : z.length ≤ 1048576) (hd : ∀ x ∈ z, -9223372036854775808 ≤ x ∧ x ≤ 9223372036854775807) {g : Nat} {x : World}
    (hg : x.heap[g]? = some (.cells (inC M (lentF z)) 3 (0, 0))) :
    Calls Try.prog 11 #[.slice (some ⟨g, 0, none⟩) N M] x fun e w' => e = .returned (.tuple #[.agg #[.int .u64 ((ofV z).1 : Int), .int .u64 ((ofV z).2.1 : Int)], .int .i64 (ofV z).2.2]) ∧ Below x.heap.size x w' := by
  subst hM hN
  refine of_any z g 0 _ x (by omega) (fun i hi => ?_) hd (lt_of_some hg)
  rw [cell_of_row x g (0 + i) _ _ _ hg, inC_get _ _ _ (by omega), show lentF z (0 + i) = z[i] by rw [Nat.zero_add]; exact dif_pos hi]
theorem ofC2 {N M : Nat} (hM : M = N + 8) (hl : N ≤ 1048576) {g : Nat} {x : World} (hg : x.heap[g]? = some (.cells (inC M (fun _ => 3)) 3 (0, 0))) :
    Calls Try.prog 11 #[.slice (some ⟨g, 0, none⟩) N M] x fun e w' => e = .returned (.tuple #[.agg #[.int .u64 ((ofV (List.replicate N 3)).1 : Int), .int .u64 ((ofV (List.replicate N 3)).2.1 : Int)], .int .i64 (ofV (List.replicate N 3)).2.2]) ∧ Below x.heap.size x w' := by
  subst hM
  have h := of_any (List.replicate N 3) g 0 (N + 8) x (by rw [List.length_replicate]; omega) (fun i hi => by
    rw [List.length_replicate] at hi
    rw [cell_of_row x g (0 + i) _ _ _ hg, inC_get _ _ _ (by omega), List.getElem_replicate]) (fun z hz => by rw [(List.mem_replicate.1 hz).2]; decide) (lt_of_some hg)
  rwa [List.length_replicate] at h
theorem rofC2 {N M : Nat} (hM : M = N + 8) (hl : N ≤ 1048576) {g : Nat} {x : World} (hg : x.heap[g]? = some (.cells (inC M (fun _ => 3)) 3 (0, 0))) :
    Calls Try.prog 13 #[.slice (some ⟨g, 0, none⟩) N M] x fun e w' => e = .returned (.tuple #[.agg (rowC (ofRV (List.replicate N 3))), .int .i64 (ofE (List.replicate N 3))]) ∧ Below x.heap.size x w' := by
  subst hM
  have h := rof_any (List.replicate N 3) g 0 (N + 8) x (by rw [List.length_replicate]; omega) (fun i hi => by
    rw [List.length_replicate] at hi
    rw [cell_of_row x g (0 + i) _ _ _ hg, inC_get _ _ _ (by omega), List.getElem_replicate]) (lt_of_some hg)
  rwa [List.length_replicate] at h
theorem backC {z : List Int} {v : Value} {N M : Nat} (hN : N = z.length) (hM : M = N + 8) (hl : z.length ≤ 1048576) {g : Nat} {w0 x : World} (h : Lies w0 v z) (hgw : w0.heap.size ≤ g) (hb : Below w0.heap.size w0 x)
    (hg : x.heap[g]? = some (.cells (inC M (lentF z)) 3 (0, 0))) :
    Calls Try.prog 12 #[.slice (some ⟨g, 0, none⟩) M M, v] x fun e w' => e = .returned (.bool true) ∧ Below g x w' ∧ w'.heap[g]? = some (.cells (inC M (fun _ => 3)) 3 (0, 0)) ∧ (∀ k, k ≠ g → w'.heap[k]? = x.heap[k]?) := by
  subst hM hN; exact back_lies z v g w0 x h hl hgw hb hg
theorem after {x y : World} {o : Obj} (h : y = x.alloc o) : Hid (y.heap[x.heap.size]? = some o) ∧ Below x.heap.size x y := by
  subst h; exact ⟨h1_0 x o, below_one x o⟩
theorem neG {y : World} {g : Nat} {o : Obj} (h : y.heap[g]? = some o) : y.heap.size ≠ g := by
  have := lt_of_some h; omega
theorem keptN {x y : World} {g b : Nat} {o : Obj} (hk : ∀ k, k ≠ g → y.heap[k]? = x.heap[k]?) (h : x.heap[b]? = some o) (hne : b ≠ g) : y.heap[b]? = some o := (hk b hne).trans h
theorem lies_on {w0 x : World} {v : Value} {z : List Int} (h : Lies w0 v z) (hb : Below w0.heap.size w0 x) : Lies x v z := lies_below h hb
theorem belowG {w0 x y : World} {g : Nat} (hgw : w0.heap.size ≤ g) (hb : Below w0.heap.size w0 x) (h : Below g x y) : Below w0.heap.size w0 y := hb.trans (h.mono hgw)
end Go.Proofs.Ytiepchghlopfnaa.Ol
