/- fit, whole. -/
import Derived.Test.YtciblmdpngnakabCb
import Derived.Test.YtciblmdpngnakabXo
namespace Go.Proofs.Ytciblmdpngnakab.Fi
set_option linter.unusedVariables false
open Go.RowKit Cb
set_option maxRecDepth 100000 in
set_option maxHeartbeats 1600000 in
theorem fit_any (s : ByteArray) (n : Nat) (hn : n ≤ 1000) (w : World) :
    Calls Try.prog 7 #[.string s, .int .i64 (n : Int)] w fun e w' => ∃ r : ByteArray, e = .returned (.string r) ∧ r.size = n ∧ Below w.heap.size w w' := by
  go_enter Try.func7, Try.ntmps7
  go_wp2
  go_loopw [0, 5] (fun v c wr => ∃ (r : ByteArray) (k : Nat), v = .string r ∧ c = .int .i64 (k : Int) ∧ Hid ((r.size = k ∧ k ≤ n) ∨ (n ≤ r.size ∧ n ≤ k)) ∧ Below w.heap.size w wr) (fun _ c _ => n + 1 - (intOf c).toNat)
  case atStart =>
    refine ⟨s, s.size, rfl, rfl, ?_, Below.refl _ _⟩
    show _ ∨ _
    by_cases h : s.size ≤ n
    · exact .inl ⟨rfl, h⟩
    · exact .inr ⟨by omega, by omega⟩
  case round =>
    obtain ⟨r, k, rfl, rfl, hr, hb⟩ := hrel
    have hbs := hb.size
    have hr' := hr.out
    by_cases hk : k < n
    · have q : (k : Int) < (n : Int) := by omega
      have q0 : (0 : Int) ≤ (k : Int) := by omega
      have hrk : Hid (r.size = k) := (by omega : r.size = k)
      have q3 : (k : Int) ≤ 1000 := by omega
      have q4 : (r.size : Int) ≤ 1000 := by omega
      have ec : (#[Value.int .u8 (97 + (k : Int) % 26)] : Array Value) = byC 1 fun _ => 97 + k % 26 := by
        rw [show (97 + (k : Int) % 26) = ((97 + k % 26 : Nat) : Int) by omega]; rfl
      have cv := Xo.conv_by (P := Try.prog) (src := 33) (dst := 9) (e := 5) (n := 1) (v := fun _ => 97 + k % 26) (fun i _ => by omega) Try.underlying33 Try.underlying5 Try.underlying9 (w := wr.alloc (Obj.cells (byC 1 fun _ => 97 + k % 26) 5)) (h1_0 wr _)
      rw [← ec] at cv
      obtain ⟨L, hL⟩ : ∃ L, L = ((List.range 1).map (fun i => UInt8.ofNat ((fun _ => 97 + k % 26) i))).toArray := ⟨_, rfl⟩
      rw [← hL] at cv
      have hLs : Hid (L.size = 1) := (by rw [hL]; simp : L.size = 1)
      have hcat : ¬ 9223372036854775807 < r.size + L.size := by have := hLs.out; have := hrk.out; omega
      have hnew : Hid ((r ++ ByteArray.mk L).size = k + 1) := (by rw [ByteArray.size_append, hrk.out]; show k + L.size = _; rw [hLs.out] : (r ++ ByteArray.mk L).size = k + 1)
      clear hr hr' hL ec hrk hLs
      go_wp2
      refine ⟨⟨r ++ ByteArray.mk L, k + 1, rfl, by simp, ?_, hb.alloc hbs _⟩, by simp only [intOf]; omega⟩
      show _ ∨ _
      exact .inl ⟨hnew.out, hk⟩
    · have q : ¬ (k : Int) < (n : Int) := by omega
      have q1 : (0 : Int) ≤ (n : Int) := by omega
      have q2 : (n : Int) ≤ (r.size : Int) := by omega
      have hz : Hid ((r.extract 0 n).size = n) := (by rw [ByteArray.size_extract]; omega : (r.extract 0 n).size = n)
      clear hr hr'
      go_wp2
      go_ret
      exact ⟨_, rfl, hz.out, hb⟩
end Go.Proofs.Ytciblmdpngnakab.Fi
