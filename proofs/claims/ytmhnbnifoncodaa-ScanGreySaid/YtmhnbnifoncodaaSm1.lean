/- Rows of words are compared word by word: contracts of the document's Words and of slices.Equal. -/
import Derived.Test.YtmhnbnifoncodaaRf2
namespace Go.Proofs.Ytmhnbnifoncodaa
open Go.ChangeShapes Go.WideShapes Go.ChangeAt Go.RowKit
set_option linter.unusedVariables false
set_option linter.unusedSimpArgs false

/-- A slice reads as a list of words, nil let in. -/
def Rd (w : World) (A : Option Addr) (n : Nat) (xs : List Int) : Prop := xs.length = n ∧ (0 < n → ∃ p, A = some p ∧ Row w p xs)
theorem Rd.up {w w' : World} {A : Option Addr} {n : Nat} {xs : List Int} (h : Rd w A n xs) (k : Up w w') : Rd w' A n xs :=
  ⟨h.1, fun hn => by obtain ⟨p, e, hr⟩ := h.2 hn; exact ⟨p, e, hr.up k⟩⟩
theorem Rd.of_row {w : World} {p : Addr} {xs : List Int} {n : Nat} (h : Row w p xs) (hn : xs.length = n) : Rd w (some p) n xs := ⟨hn, fun _ => ⟨p, rfl, h⟩⟩
theorem Rd.at_ {w : World} {A : Option Addr} {n x : Nat} {xs : List Int} (h : Rd w A n xs) (hx : x < n) : ∃ p, A = some p ∧ w.cell? (p.add x) = some (.int .u64 (xs.getD x 0)) := by
  obtain ⟨p, e, hr⟩ := h.2 (by omega)
  exact ⟨p, e, hr.at_ x (by rw [h.1]; exact hx)⟩
theorem take_more {xs ys : List Int} {x : Nat} (h : xs.take x = ys.take x) (h1 : x < xs.length) (h2 : x < ys.length) (e : xs.getD x 0 = ys.getD x 0) : xs.take (x + 1) = ys.take (x + 1) := by
  rw [List.take_succ_eq_append_getElem h1, List.take_succ_eq_append_getElem h2, h]
  simp [List.getD, List.getElem?_eq_getElem h1, List.getElem?_eq_getElem h2] at e
  rw [e]
theorem ne_of_get {xs ys : List Int} {x : Nat} (e : xs.getD x 0 ≠ ys.getD x 0) : xs ≠ ys := fun h => e (by rw [h])

def EqRel (w : World) (xs ys : List Int) (n : Nat) (i : Value) (wr : World) : Prop := ∃ x : Nat, x ≤ n ∧ i = .int .i64 x ∧ xs.take x = ys.take x ∧ Up w wr

end Go.Proofs.Ytmhnbnifoncodaa
