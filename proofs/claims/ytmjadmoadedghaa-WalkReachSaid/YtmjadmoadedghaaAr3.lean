/- Words that are laid into memory (package arena): contract of lay. -/
import Derived.Test.YtmjadmoadedghaaRow
namespace Go.Proofs.Ytmjadmoadedghaa
open Go.ChangeShapes Go.WideShapes Go.ChangeAt Go.RowKit
set_option linter.unusedVariables false
set_option linter.unusedSimpArgs false

/-- Memory is handed back. -/
def Gives (w : World) (m : Me) (e : Ending) (w' : World) : Prop := ∃ P Q c d, e = .returned (.agg #[.int .i64 m.n, .slice (some P) m.n c, .slice (some Q) m.n d]) ∧ Sits w' m P Q c d ∧ Up w w'

end Go.Proofs.Ytmjadmoadedghaa
