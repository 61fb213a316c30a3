/- How many words a head's object has, and whether a field is a pointer (head.Words, head.Pointer): contracts. -/
import Derived.Test.YtmjjgaldbnhdfaaHd3
namespace Go.Proofs.Ytmjjgaldbnhdfaa
open Go.ChangeShapes Go.WideShapes Go.ChangeAt Go.RowKit
set_option linter.unusedVariables false
set_option linter.unusedSimpArgs false

set_option maxHeartbeats 400000 in
theorem words_f (t l m : Int) (ht : t = 255) (h0 : 0 ≤ l) (h1 : l ≤ 65535) (w : World) :
    Calls Try.prog 42 #[hdv t l m] w fun e w' => e = .returned (.int .i64 (l + 1)) ∧ Up w w' := by
  subst ht
  have U := Lib.hid (Up.refl w)
  go_enter Try.func42, Try.ntmps42
  go_wp2
  go_ret
  exact ⟨rfl, (((U.out.alloc _).alloc _).alloc _).alloc _⟩

set_option maxHeartbeats 400000 in
theorem words_o (t l m : Int) (ht : t < 255) (h0 : 0 ≤ l) (h1 : l ≤ 16) (w : World) :
    Calls Try.prog 42 #[hdv t l m] w fun e w' => e = .returned (.int .i64 (2 + l)) ∧ Up w w' := by
  have d1 : decide (255 ≤ t) = false := decide_eq_false (by omega)
  have U := Lib.hid (Up.refl w)
  go_enter Try.func42, Try.ntmps42
  go_wp2
  go_ret
  exact ⟨rfl, (U.out.alloc _).alloc _⟩

/-- Is a field a pointer? -/
def ptb (l m i : Int) : Bool := decide (0 ≤ i) && (decide (i < l) && (m / 2 ^ i.toNat % 2 == 1))
theorem and1 (z : Int) (h0 : 0 ≤ z) (h1 : z < 18446744073709551616) : bits .and .u64 z 1 = z % 2 := by go_bits2

end Go.Proofs.Ytmjjgaldbnhdfaa
