/- What is put (object.blank, Put, Fill): contracts of the closures and of the calls. -/
import Derived.Test.YtgcpkgogjcgfbaaOb5
namespace Go.Proofs.Ytgcpkgogjcgfbaa
open Go.ChangeShapes Go.WideShapes Go.ChangeAt Go.RowKit
set_option linter.unusedVariables false
set_option linter.unusedSimpArgs false

/-- The words behind the first one, so many, are 0. -/
def Me.zs (m : Me) (a : Int) : Nat → Me
  | 0 => m
  | k + 1 => (m.zs a k).st (a + (k + 1)) 0
theorem Me.zs_n (m : Me) (a : Int) (k : Nat) : (m.zs a k).n = m.n := by
  induction k with
  | zero => rfl
  | succ k ih => exact (Me.st_n _ _ _).trans ih
theorem Me.wf.zs {m : Me} (h : m.wf) (a : Int) (k : Nat) : (m.zs a k).wf := by
  induction k with
  | zero => exact h
  | succ k ih => exact ih.st u64_0 _
theorem set_same {l : List Int} {k : Nat} {v : Int} (hk : k < l.length) (h : l.getD k 0 = v) : l.set k v = l := by
  subst h
  simp [List.getD, List.getElem?_eq_getElem hk]
theorem st_same {m : Me} (hm : m.ok) {a v : Int} (ht : m.there a) (h : m.ld a = v) : m.st a v = m := by
  have h0 := ht.2
  have h1 := whp_nn a
  rw [show m.st a v = _ from if_pos ht, set_same (by rw [Me.len_sp hm]; omega) ((show m.ld a = _ from if_pos ht) ▸ h), Me.put_sp _ (whs_01 a)]

/-- Where the memory of a loop's round lies. -/
def BlkRel (m : Me) (a : Int) (L B : Nat) (w0 : World) (i : Value) (wr : World) : Prop := ∃ k : Nat, k ≤ L ∧ i = .int .i64 ((k + 1 : Nat) : Int) ∧ Kp [B] w0 wr ∧ ∃ P Q c d, Box wr B (m.zs a k) P Q c d

end Go.Proofs.Ytgcpkgogjcgfbaa
