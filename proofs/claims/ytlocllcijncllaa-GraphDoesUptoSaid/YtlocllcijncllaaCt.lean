/- graph.Canon's reach (Canon$1) where nothing is to be done: contracts. -/
import Derived.Test.YtlocllcijncllaaCs
namespace Go.Proofs.Ytlocllcijncllaa
open Go.Joins Go.ChangeShapes Go.WideShapes Go.ChangeAt Go.RowKit Go.Deep Go.Shelf Go.Maps
set_option linter.unusedVariables false
set_option linter.unusedSimpArgs false

abbrev ptv (B : Nat) : Value := .pointer (some ⟨B, 0, none⟩)
theorem reach_out (GB PB OB RB N c : Nat) (A : Option Addr) (vs0 : Value) (n : Int) (w : World) (hG : Blk w GB 25 #[.slice A N c, vs0]) (hN : N ≤ 9223372036854775807) (h : n < 1 ∨ (N : Int) < n) :
    Calls Try.prog 41 #[.int .u64 n, ptv GB, ptv PB, ptv OB, ptv RB] w fun e w' => e = .returned (.int .u64 0) ∧ w' = w := by
  have hc := hG.cell
  have hl := hG.lt
  clear hG
  by_cases h1 : n < 1
  · have d1 : decide (n < 1) = true := decide_eq_true h1
    go_enter Try.func41, Try.ntmps41
    go_wp2
    go_ret
    exact ⟨rfl, rfl⟩
  · have d1 : decide (n < 1) = false := decide_eq_false h1
    have d2 : decide (n > (N : Int)) = true := decide_eq_true (by omega)
    go_enter Try.func41, Try.ntmps41
    go_wp2
    go_ret
    exact ⟨rfl, rfl⟩
set_option maxHeartbeats 1000000 in
theorem reach_told (GB PB PL OB RB N c y : Nat) (A : Option Addr) (vs0 : Value) (x : Int) (w : World) (hG : Blk w GB 25 #[.slice A N c, vs0]) (hP : Blk w PB 60 #[.slice (some ⟨PL, 0, none⟩) N N]) (hx : w.cell? ⟨PL, y, none⟩ = some (.int .u64 x)) (hN : N ≤ 9223372036854775807) (hy : y < N) (h0 : x ≠ 0) :
    Calls Try.prog 41 #[.int .u64 ((y : Int) + 1), ptv GB, ptv PB, ptv OB, ptv RB] w fun e w' => e = .returned (.int .u64 x) ∧ w' = w := by
  have hc := hG.cell
  have hl := hG.lt
  have hpc := hP.cell
  have hpl := hP.lt
  have hb : (x == 0) = false := beq_eq_false_iff_ne.2 h0
  have d1 : decide ((y : Int) + 1 < 1) = false := decide_eq_false (by omega)
  have d2 : decide ((y : Int) + 1 > (N : Int)) = false := decide_eq_false (by omega)
  have hxl := lt_of_cell hx
  clear hG hP
  go_enter Try.func41, Try.ntmps41
  go_wp2
  go_ret
  exact ⟨rfl, rfl⟩
end Go.Proofs.Ytlocllcijncllaa
