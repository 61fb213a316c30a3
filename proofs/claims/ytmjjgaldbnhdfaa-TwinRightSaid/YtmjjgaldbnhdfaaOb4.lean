/- A field of an object (object.Get, Set): contracts of the calls. -/
import Derived.Test.YtmjjgaldbnhdfaaOb3
namespace Go.Proofs.Ytmjjgaldbnhdfaa
open Go.ChangeShapes Go.WideShapes Go.ChangeAt Go.RowKit
set_option linter.unusedVariables false
set_option linter.unusedSimpArgs false

/-- What the row of Get comes to. -/
def GetPhi (m : Me) (a i : Int) (Bh Bv : Nat) (x : Int) (w' : World) : Prop := x = m.gete a i ∧ (x = 0 → Blk w' Bh 52 (hcs (m.att a) (m.atl a) (m.atm a)) ∧ Blk w' Bv 32 #[.int .u64 (m.ld (a + 2 + i))])
/-- What the row of Set comes to. -/
def SetPhi (m : Me) (a i v : Int) (Bo : Nat) (x : Int) (w' : World) : Prop := x = m.gete a i ∧ ∃ P Q c d, Box w' Bo (m.setm a i v) P Q c d
end Go.Proofs.Ytmjjgaldbnhdfaa
