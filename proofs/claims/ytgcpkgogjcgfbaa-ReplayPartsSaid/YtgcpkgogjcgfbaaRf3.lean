/- The document's answers for memory (dovecoteref03): contracts of Swap and Clear. -/
import Derived.Test.YtgcpkgogjcgfbaaRf2
namespace Go.Proofs.Ytgcpkgogjcgfbaa
open Go.ChangeShapes Go.WideShapes Go.ChangeAt Go.RowKit
set_option linter.unusedVariables false
set_option linter.unusedSimpArgs false

theorem new_row' (W : World) (xs : List Int) (t : TypeId) (g : Nat) (hg : g = W.heap.size) : Row (W.alloc (.cells (wds xs).toArray t)) ⟨g, 0, none⟩ xs := by
  subst hg
  exact row_of_blk (heap_alloc_new W _)

end Go.Proofs.Ytgcpkgogjcgfbaa
