/- Nodes: twins. -/
import Derived.Test.YtbekjlinnbmpgaaSm
namespace Go.Proofs.Ytbekjlinnbmpgaa.Tn
set_option linter.unusedVariables false
set_option linter.unusedSimpArgs false
open Go.RowKit Lib0 Kp Kb Kd Kt Ks Kw Ku Kx Fs Nd Nq Nr Nl Sn
theorem own_below {w x : World} {base e size n : Nat} {v : Value} {xs : List Value} (h : w.ownsRow base e size v n xs) (hb : Below w.heap.size w x) : x.ownsRow base e size v n xs := by
  refine ⟨h.1, ?_⟩
  rcases h.2 with h0 | ⟨g, cap, cur, h1, h2, h3, h4⟩
  · exact Or.inl h0
  · exact Or.inr ⟨g, cap, cur, h1, h2, kept hb h3, h4⟩
def TwinsP (w : World) : Ending → World → Prop := fun e w' => ∃ (o : Option Addr) (n c : Nat), e = .returned (.slice o n c) ∧ Below w.heap.size w w'
theorem own_slice {w : World} {base e size n : Nat} {v : Value} {xs : List Value} (h : w.ownsRow base e size v n xs) : ∃ (o : Option Addr) (n c : Nat), v = .slice o n c := by
  rcases h.2 with ⟨h0, _⟩ | ⟨g, cap, cur, h1, _⟩
  · exact ⟨_, _, _, h0⟩
  · exact ⟨_, _, _, h1⟩
set_option maxRecDepth 100000 in
set_option maxHeartbeats 1600000 in
theorem twins_any : ∀ (m : Nat) (ts : List Tr), SizeOf.sizeOf ts ≤ m → ∀ (v : Value) (w : World), Lien w v ts → Calls Try.prog 25 #[v] w (TwinsP w) := by
  intro m
  induction m with
  | zero =>
    intro ts hm
    cases ts <;> simp at hm
  | succ m ih =>
    intro ts hm v w hz
    obtain ⟨i0, hi, hz0, hz1, hz2⟩ := info_parts infoN
    obtain ⟨o, cap, rfl, hl, hc⟩ := hz
    obtain ⟨N, HN, hN⟩ : ∃ N : Nat, Hid (ts.length = N) ∧ N ≤ 1048576 := ⟨_, rfl, hl⟩
    have HC : Hid (ts ≠ [] → ∃ a, o = some a ∧ laid w a 0 ts) := hc
    have IH : Hid (∀ ts : List Tr, SizeOf.sizeOf ts ≤ m → ∀ (v : Value) (w : World), Lien w v ts → Calls Try.prog 25 #[v] w (TwinsP w)) := ih
    have HM : Hid (SizeOf.sizeOf ts ≤ m + 1) := hm
    clear hc hl ih hm
    rw [HN.out]
    go_enter Try.func25, Try.ntmps25
    go_wp2
    go_loopw [3, 4] (fun v i wr => ∃ (k : Nat) (xs : List Value), k ≤ N ∧ i = .int .i64 (k : Int) ∧ wr.ownsRow w.heap.size 59 3 v k xs ∧ Below w.heap.size w wr) (fun _ i _ => N + 1 - (intOf i).toNat)
    case atStart => exact ⟨0, [], Nat.zero_le _, rfl, World.ownsRow_nil _ _ _ _, Below.refl _ _⟩
    case round =>
      obtain ⟨k, xs, hk, rfl, hown, bw⟩ := hrel
      have hbs := bw.size
      by_cases hlt : k < N
      · have q0 : (0 : Int) ≤ (k : Int) := by omega
        have q1 : (k : Int) < (N : Int) := by omega
        have hkt : k < ts.length := by rw [HN.out]; exact hlt
        obtain ⟨a, rfl, hla⟩ := HC.out (by intro hh; rw [hh] at hkt; simp at hkt)
        obtain ⟨tag, val, kids, ko, kc, et, d0, d1, d2, hv, hkd⟩ := laid_at ts 0 k hkt hla
        rw [Nat.zero_add] at d0 d1 d2
        have hmem : Tr.mk tag val kids ∈ ts := by rw [← et]; exact List.getElem_mem hkt
        have hE : (a.add (k * 3)).block < w.heap.size := World.block_lt_of_cell? w _ d0
        have pk := IH.out kids (by have := mem_lt hmem; have := HM.out; omega) (.slice ko kids.length kc) wr.drew (lien_below hkd bw.drew)
        have PK : Hid (Calls Try.prog 25 #[.slice ko kids.length kc] wr.drew (TwinsP wr.drew)) := pk
        have KD : Hid (∀ y, Below w.heap.size w y → y.cell? (a.add (k * 3)) = some (.int .i64 tag) ∧ y.cell? ⟨(a.add (k * 3)).block, (a.add (k * 3)).off + 1, none⟩ = some (.string val) ∧ y.cell? ⟨(a.add (k * 3)).block, (a.add (k * 3)).off + 2, none⟩ = some (.slice ko kids.length kc)) :=
          (fun y hy => ⟨(hy.cell hE).trans d0, (hy.cell (p := ⟨(a.add (k * 3)).block, (a.add (k * 3)).off + 1, none⟩) hE).trans d1, (hy.cell (p := ⟨(a.add (k * 3)).block, (a.add (k * 3)).off + 2, none⟩) hE).trans d2⟩ : ∀ y, Below w.heap.size w y → y.cell? (a.add (k * 3)) = some (.int .i64 tag) ∧ y.cell? ⟨(a.add (k * 3)).block, (a.add (k * 3)).off + 1, none⟩ = some (.string val) ∧ y.cell? ⟨(a.add (k * 3)).block, (a.add (k * 3)).off + 2, none⟩ = some (.slice ko kids.length kc))
        obtain ⟨d0', d1', d2'⟩ := KD.out wr bw
        generalize kids.length = kl at *
        clear pk hla hkd hmem et d0 d1 d2
        go_wp2_with fail
        go_region_held3 (fun w' => w'.cell? (a.add (k * 3)) = some (.int .i64 tag) ∧ w'.cell? ⟨(a.add (k * 3)).block, (a.add (k * 3)).off + 1, none⟩ = some (.string val) ∧ w'.cell? ⟨(a.add (k * 3)).block, (a.add (k * 3)).off + 2, none⟩ = some (.slice ko kl kc)) (first | (refine ⟨?_, ?_, ?_⟩ <;> assumption) | go_keep)
          ((first
            | (go_at_call 25; refine PK.out.mono ?_; rintro e y ⟨o2, n2, c2, rfl, hy⟩; have BY : Below wr.heap.size wr y := ((Below.refl _ wr).drew).trans hy; have BW : Below w.heap.size w y := keepB bw BY; obtain ⟨j0, j1, j2⟩ := KD.out y BW; have hown2 := own_below hown BY)
            | (refine step_append_lies _ (by rfl) _ _ _ (by rfl) w.heap.size 59 i0 _ 3 48 Try.underlying30 hi hz0 hz1 hz2 rfl (by omega) u3 k _ (by rfl) (hown2.alloc _) ⟨y.heap.size, 0, none⟩ 1 1 _ (by rfl) (by rfl) (World.news_of_block (heap_alloc_new y _)) (by simp [Value.oneCell']) (by omega) (by unfold maxLen; omega) (by omega) (by have := BW.size; simp; omega) (y.heap.size + 1) (by simp) ?_; intro gg cap w1 hown1 hgrow hat hlt1; have bw1 : Below w.heap.size w w1 := below_app0 BW BW.size hown2 hgrow; obtain ⟨l0, l1, l2⟩ := KD.out w1 bw1)))
        all_goals
          go_wp2
          go_roundw
          case rel => exact ⟨k + 1, _, by omega, by go_num, hown1, bw1⟩
          case measure => simp [intOf]; omega
      · have q1 : ¬ (k : Int) < (N : Int) := by omega
        obtain ⟨o', n', c', rfl⟩ := own_slice hown
        go_wp2
        go_ret
        exact ⟨o', n', c', rfl, bw⟩
end Go.Proofs.Ytbekjlinnbmpgaa.Tn
