/- Two memories are compared: contracts of Same (the document's, and package arena's). -/
import Derived.Test.YtmhnbnifoncodaaSm1
namespace Go.Proofs.Ytmhnbnifoncodaa
open Go.ChangeShapes Go.WideShapes Go.ChangeAt Go.RowKit
set_option linter.unusedVariables false
set_option linter.unusedSimpArgs false

/-- Memory, right or not. -/
structure Ma where
  N : Int
  xs : List Int
  ys : List Int
def Ma.same (a b : Ma) : Bool := decide (a.xs = b.xs) && decide (a.ys = b.ys) && decide (a.N = b.N)
/-- Memory, right or not, lies there. -/
def Lies (w : World) (m : Ma) (A0 A1 : Option Addr) (n0 n1 c0 c1 : Nat) : Prop := Rd w A0 n0 m.xs ∧ Rd w A1 n1 m.ys ∧ n0 ≤ maxLen ∧ n1 ≤ maxLen
theorem Lies.up {w w' : World} {m : Ma} {A0 A1 : Option Addr} {n0 n1 c0 c1 : Nat} (h : Lies w m A0 A1 n0 n1 c0 c1) (k : Up w w') : Lies w' m A0 A1 n0 n1 c0 c1 := ⟨h.1.up k, h.2.1.up k, h.2.2⟩
def Me.ma (m : Me) : Ma := ⟨m.n, m.xs, m.ys⟩
theorem Sits.lies {w : World} {m : Me} {p q : Addr} {c d : Nat} (h : Sits w m p q c d) : Lies w m.ma (some p) (some q) m.n m.n c d := by
  obtain ⟨⟨_, h1, h2, h3⟩, _, _, _, _, h4, h5⟩ := h
  exact ⟨Rd.of_row h4 h2, Rd.of_row h5 h3, by unfold maxLen; omega, by unfold maxLen; omega⟩

/-- The same memory is the same. -/
theorem Ma.same_self (a : Ma) : a.same a = true := by simp [Ma.same]
end Go.Proofs.Ytmhnbnifoncodaa
