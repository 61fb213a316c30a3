/- Where addresses lead in memory (package arena): contracts of its inner functions. -/
import Derived.Test.YtgcpkgogjcgfbaaMem
import Derived.RegionTactic
import Derived.Deep.QuietTactic
import Derived.BigQuiet
import Derived.Outline
namespace Go.Proofs.Ytgcpkgogjcgfbaa
open Go.ChangeShapes Go.WideShapes Go.ChangeAt Go.RowKit
set_option linter.unusedVariables false
set_option linter.unusedSimpArgs false

set_option maxHeartbeats 400000 in
theorem places_any (n k : Int) (s0 s1 : Value) (w : World) :
    Calls Try.prog 84 #[.agg #[.int .i64 n, s0, s1], .int .i64 k] w fun e w' => e = .returned (.func (.func 98) #[.agg #[.int .i64 n, s0, s1, .int .i64 k]] #[]) ∧ Up w w' := by
  have hmf : ∀ (fn : Fn) (first cap : Array Value) (w : World), (Instr.makeFunc fn first cap).run Try.prog w = .ok (.func fn first cap) w := fun _ _ _ _ => rfl
  go_enter Try.func84, Try.ntmps84
  go_wp2
  go_ret
  exact ⟨rfl, (Up.refl _).alloc _⟩

/-- From there on so many words are there (one at least). -/
def Runs (n : Nat) (k p : Int) : Prop := p + k ≤ n ∧ p + 1 ≤ n
instance decRuns (n : Nat) (k p : Int) : Decidable (Runs n k p) := by unfold Runs; infer_instance

theorem max_is (k : Int) (w : World) : (Builtin.max_ #[3, 3] 3 #[.int .i64 k, .int .i64 1]).run Try.prog w = .ok (.int .i64 (max k 1)) w := by
  rw [run_max_int2]
  have e : (if (1 : Int) > k then (1 : Int) else k) = max k 1 := by split <;> omega
  rw [e]

set_option maxHeartbeats 1000000 in
theorem place_yes (n : Nat) (k a s p : Int) (A B : Option Addr) (c d : Nat) (hn : n ≤ 4096) (k0 : 0 ≤ k) (ha : U64 a) (hl : Leads a s p) (hr : Runs n k p) (w : World) :
    Calls Try.prog 98 #[.agg #[.int .i64 n, .slice A n c, .slice B n d, .int .i64 k], .int .u64 a] w fun e w' => e = .returned (.tuple #[.agg #[.int .i64 s, .int .i64 p], .bool true]) ∧ Up w w' := by
  have hw := Lib.hid (fun w => where_yes a s p ha hl w)
  obtain ⟨hs, p0, p1, hE⟩ := hl
  obtain ⟨r0, r1⟩ := hr
  have hf := Lib.hid (fun w => fits_yes p (max k 1) n ⟨by omega, by omega⟩ ⟨p0, by omega, by omega⟩ w)
  have hmx := max_is k
  clear ha hE
  rcases hs with rfl | rfl

  · go_enter Try.func98, Try.ntmps98
    go_wp2_with (fail)
    refine (hw.out _).mono ?_
    rintro e w1 ⟨rfl, h1⟩
    obtain ⟨c1, f1⟩ := bcell h1
    have z1 : w.heap.size + 1 < w1.heap.size := by have := h1.size; simp at this; omega
    have y1 : w.heap.size < w1.heap.size := by omega
    go_wp2_with (fail)
    refine (hf.out _).mono ?_
    rintro e w2 ⟨rfl, h2⟩
    obtain ⟨c2, f2⟩ := bcell h2
    have z2 := h2.lt z1
    have y2 := h2.lt y1
    go_wp2_with (fail)
    refine (hf.out _).mono ?_
    rintro e w3 ⟨rfl, h3⟩
    obtain ⟨c3, f3⟩ := bcell h3
    have z3 := h3.lt z2
    have y3 := h3.lt y2
    go_wp2
    refine bodyPost_ret (v := .tuple #[.agg #[.int .i64 0, .int .i64 p], .bool true]) (by simp [results, Try.results98, go_sem, c1, z1, c2, z2, c3, z3]) rfl ⟨rfl, ?_⟩
    exact (((((((Up.refl _).alloc _).alloc _).trans h1).trans h2).trans h3).setCell (by simp) _).setCell (by simp) _

  · go_enter Try.func98, Try.ntmps98
    go_wp2_with (fail)
    refine (hw.out _).mono ?_
    rintro e w1 ⟨rfl, h1⟩
    obtain ⟨c1, f1⟩ := bcell h1
    have z1 : w.heap.size + 1 < w1.heap.size := by have := h1.size; simp at this; omega
    have y1 : w.heap.size < w1.heap.size := by omega
    go_wp2_with (fail)
    refine (hf.out _).mono ?_
    rintro e w2 ⟨rfl, h2⟩
    obtain ⟨c2, f2⟩ := bcell h2
    have z2 := h2.lt z1
    have y2 := h2.lt y1
    go_wp2_with (fail)
    refine (hf.out _).mono ?_
    rintro e w3 ⟨rfl, h3⟩
    obtain ⟨c3, f3⟩ := bcell h3
    have z3 := h3.lt z2
    have y3 := h3.lt y2
    go_wp2
    refine bodyPost_ret (v := .tuple #[.agg #[.int .i64 1, .int .i64 p], .bool true]) (by simp [results, Try.results98, go_sem, c1, z1, c2, z2, c3, z3]) rfl ⟨rfl, ?_⟩
    exact (((((((Up.refl _).alloc _).alloc _).trans h1).trans h2).trans h3).setCell (by simp) _).setCell (by simp) _

set_option maxHeartbeats 1000000 in
theorem place_far (n : Nat) (k a s p : Int) (A B : Option Addr) (c d : Nat) (hn : n ≤ 4096) (hk : I64 k) (k0 : 0 ≤ k) (ha : U64 a) (hl : Leads a s p) (hr : ¬ Runs n k p) (w : World) :
    Calls Try.prog 98 #[.agg #[.int .i64 n, .slice A n c, .slice B n d, .int .i64 k], .int .u64 a] w fun e w' => e = .returned (.tuple #[.agg #[.int .i64 0, .int .i64 0], .bool false]) ∧ Up w w' := by
  have hw := Lib.hid (fun w => where_yes a s p ha hl w)
  obtain ⟨hs, p0, p1, hE⟩ := hl
  unfold Runs at hr
  obtain ⟨hk0, hk1⟩ := hk
  have hf := Lib.hid (fun w => fits_no p (max k 1) n ⟨by omega, by omega⟩ ⟨by omega, by omega⟩ (by unfold fit; omega) w)
  have hmx := max_is k
  clear ha hE hr hk0 hk1
  go_enter Try.func98, Try.ntmps98
  go_wp2_with (fail)
  refine (hw.out _).mono ?_
  rintro e w1 ⟨rfl, h1⟩
  obtain ⟨c1, f1⟩ := bcell h1
  have z1 : w.heap.size + 1 < w1.heap.size := by have := h1.size; simp at this; omega
  have y1 : w.heap.size < w1.heap.size := by omega
  go_wp2_with (fail)
  refine (hf.out _).mono ?_
  rintro e w2 ⟨rfl, h2⟩
  obtain ⟨c2, f2⟩ := bcell h2
  have z2 := h2.lt z1
  have y2 := h2.lt y1
  go_wp2
  refine bodyPost_ret (v := .tuple #[.agg #[.int .i64 0, .int .i64 0], .bool false]) (by simp [results, Try.results98, go_sem, c1, z1, c2, z2]) rfl ⟨rfl, ?_⟩
  exact ((((((Up.refl _).alloc _).alloc _).trans h1).trans h2).setCell (by simp) _).setCell (by simp) _

set_option maxHeartbeats 1000000 in
theorem place_none (n : Nat) (k a : Int) (A B : Option Addr) (c d : Nat) (ha : U64 a) (hl : whb a = false) (w : World) :
    Calls Try.prog 98 #[.agg #[.int .i64 n, .slice A n c, .slice B n d, .int .i64 k], .int .u64 a] w fun e w' => e = .returned (.tuple #[.agg #[.int .i64 0, .int .i64 0], .bool false]) ∧ Up w w' := by
  have hw := Lib.hid (fun w => where_not a ha hl w)
  have hmx := max_is k
  clear ha hl
  go_enter Try.func98, Try.ntmps98
  go_wp2_with (fail)
  refine (hw.out _).mono ?_
  rintro e w1 ⟨rfl, h1⟩
  obtain ⟨c1, f1⟩ := bcell h1
  have z1 : w.heap.size + 1 < w1.heap.size := by have := h1.size; simp at this; omega
  have y1 : w.heap.size < w1.heap.size := by omega
  go_wp2
  refine bodyPost_ret (v := .tuple #[.agg #[.int .i64 0, .int .i64 0], .bool false]) (by simp [results, Try.results98, go_sem, c1, z1]) rfl ⟨rfl, ?_⟩
  exact (((((Up.refl _).alloc _).alloc _).trans h1).setCell (by simp) _).setCell (by simp) _

end Go.Proofs.Ytgcpkgogjcgfbaa
