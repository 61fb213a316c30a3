/- Package bump: what is taken at most (Most). -/
import Derived.Test.YtgcpkgogjcgfbaaBm2
namespace Go.Proofs.Ytgcpkgogjcgfbaa
open Go.ChangeShapes Go.WideShapes Go.ChangeAt Go.RowKit
set_option linter.unusedVariables false
set_option linter.unusedSimpArgs false


/-- What holds at the label: n is what is left. -/
def AtAgain (s a l m : Int) (w : World) (a' : Act) (w' : World) : Prop :=
  ∃ (g : Nat) (u8 u9 u10 u11 u12 u13 u14 u15 u16 u17 u18 u19 u20 u21 u22 u23 u24 u25 u26 u27 u28 u29 u30 u31 : Value),
    a' = { tmps := #[bv s a l, .int .i64 m, .pointer (some ⟨w.heap.size, 0, none⟩), undef, .pointer (some ⟨w.heap.size + 1, 0, none⟩), .int .u64 0, .int .i64 0, .func (.func 111) #[] #[.pointer (some ⟨g, 0, none⟩)], u8, u9, u10, u11, u12, u13, u14, u15, u16, u17, u18, u19, u20, u21, u22, u23, u24, u25, u26, u27, u28, u29, u30, u31], defers := [] }
      ∧ Up w w' ∧ Blk w' w.heap.size 27 #[.int .i64 s, .int .i64 a, .int .i64 l] ∧ Blk w' (w.heap.size + 1) 27 #[.int .i64 0, .int .i64 0, .int .i64 0]

end Go.Proofs.Ytgcpkgogjcgfbaa
