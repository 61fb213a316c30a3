/- The document's answers for what is put (dovecoteref05: Put, Fill): contracts. -/
import Derived.Test.YtjolikgficknnaaOb7
namespace Go.Proofs.Ytjolikgficknnaa
open Go.ChangeShapes Go.WideShapes Go.ChangeAt Go.RowKit
set_option linter.unusedVariables false
set_option linter.unusedSimpArgs false

/-- Where the memory of a round lies. -/
def PutRel (m : Me) (a : Int) (L B : Nat) (w0 : World) (i : Value) (wr : World) : Prop := ∃ k : Nat, k ≤ L ∧ i = .int .i64 (k : Int) ∧ Kp [B] w0 wr ∧ ∃ P Q c d, Box wr B (m.zs a k) P Q c d

end Go.Proofs.Ytjolikgficknnaa
