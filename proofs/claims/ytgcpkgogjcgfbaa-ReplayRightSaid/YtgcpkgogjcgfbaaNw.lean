/- New memory, and which memory is right: contracts of New and Right (the document's, and package arena's). -/
import Derived.Test.YtgcpkgogjcgfbaaSm2
namespace Go.Proofs.Ytgcpkgogjcgfbaa
open Go.ChangeShapes Go.WideShapes Go.ChangeAt Go.RowKit
set_option linter.unusedVariables false
set_option linter.unusedSimpArgs false

/-- Is it right? -/
def rt (N : Int) (n0 n1 : Nat) : Bool := decide (16 ≤ N ∧ N ≤ 4096 ∧ (n0 : Int) = N ∧ (n1 : Int) = N)

set_option maxHeartbeats 2000000 in
theorem rmright_any (N : Int) (A0 A1 : Option Addr) (n0 n1 c0 c1 : Nat) (w : World) :
    Calls Try.prog 36 #[.agg #[.int .i64 N, .slice A0 n0 c0, .slice A1 n1 c1]] w fun e w' => e = .returned (.bool (rt N n0 n1)) ∧ Up w w' := by
  by_cases h0 : 16 ≤ N
  · by_cases h1 : N ≤ 4096
    · by_cases h2 : (n0 : Int) = N
      · subst h2
        by_cases h3 : (n1 : Int) = n0
        · obtain rfl : n1 = n0 := by omega
          rw [show rt (n1 : Int) n1 n1 = true from decide_eq_true ⟨h0, h1, rfl, rfl⟩]
          clear h3
          go_enter Try.func36, Try.ntmps36
          go_wp2
          go_ret
          exact ⟨rfl, (Up.refl _).alloc _⟩
        · rw [show rt (n0 : Int) n0 n1 = false from decide_eq_false (fun q => h3 q.2.2.2)]
          have hb : (n1 == n0) = false := beq_eq_false_iff_ne.mpr (by omega)
          have hb2 : ((n1 : Int) == (n0 : Int)) = false := beq_eq_false_iff_ne.mpr h3
          clear h3
          go_enter Try.func36, Try.ntmps36
          go_wp2
          go_ret
          exact ⟨rfl, (Up.refl _).alloc _⟩
      · rw [show rt N n0 n1 = false from decide_eq_false (fun q => h2 q.2.2.1)]
        have hb : ((n0 : Int) == N) = false := beq_eq_false_iff_ne.mpr h2
        clear h2
        go_enter Try.func36, Try.ntmps36
        go_wp2
        go_ret
        exact ⟨rfl, (Up.refl _).alloc _⟩
    · rw [show rt N n0 n1 = false from decide_eq_false (fun q => h1 q.2.1)]
      have hb : decide (N ≤ 4096) = false := decide_eq_false h1
      clear h1
      go_enter Try.func36, Try.ntmps36
      go_wp2
      go_ret
      exact ⟨rfl, (Up.refl _).alloc _⟩
  · rw [show rt N n0 n1 = false from decide_eq_false (fun q => h0 q.1)]
    have hb : decide (16 ≤ N) = false := decide_eq_false h0
    clear h0
    go_enter Try.func36, Try.ntmps36
    go_wp2
    go_ret
    exact ⟨rfl, (Up.refl _).alloc _⟩

end Go.Proofs.Ytgcpkgogjcgfbaa
