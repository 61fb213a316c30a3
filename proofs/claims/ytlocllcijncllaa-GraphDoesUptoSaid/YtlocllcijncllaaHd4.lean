/- How many words a head's object has, and whether a field is a pointer (head.Words, head.Pointer): contracts. -/
import Derived.Test.YtlocllcijncllaaHd2
namespace Go.Proofs.Ytlocllcijncllaa
open Go.ChangeShapes Go.WideShapes Go.ChangeAt Go.RowKit
set_option linter.unusedVariables false
set_option linter.unusedSimpArgs false

/-- Is a field a pointer? -/
def ptb (l m i : Int) : Bool := decide (0 ≤ i) && (decide (i < l) && (m / 2 ^ i.toNat % 2 == 1))
theorem and1 (z : Int) (h0 : 0 ≤ z) (h1 : z < 18446744073709551616) : bits .and .u64 z 1 = z % 2 := by go_bits2

set_option maxHeartbeats 400000 in
theorem ptr_any (t l m i : Int) (hm : 0 ≤ m) (hm1 : m ≤ 18446744073709551615) (h1 : i ≤ 62) (w : World) :
    Calls Try.prog 25 #[hdv t l m, .int .i64 i] w fun e w' => e = .returned (.bool (ptb l m i)) ∧ Up w w' := by
  have U := Lib.hid (Up.refl w)
  by_cases c0 : 0 ≤ i
  · by_cases c1 : i < l
    · have hd : 0 ≤ m / 2 ^ i.toNat ∧ m / 2 ^ i.toNat ≤ m := ⟨Int.ediv_nonneg hm (by have := (pow_le i.toNat (by omega)).1; omega), Int.ediv_le_self _ hm⟩
      have E : (bits BinOp.and IntKind.u64 (m / 2 ^ i.toNat) 1 == 1) = ptb l m i := by
        rw [and1 _ hd.1 (by omega)]
        unfold ptb
        rw [decide_eq_true c0, decide_eq_true c1]
        rfl
      clear hd
      generalize ptb l m i = b at E
      go_enter Try.func25, Try.ntmps25
      go_wp2
      go_ret
      exact ⟨rfl, (Up.refl _).alloc _⟩
    · have E : ptb l m i = false := by unfold ptb; rw [decide_eq_false c1, Bool.false_and, Bool.and_false]
      rw [E]
      clear E
      have d1 : decide (i < l) = false := decide_eq_false c1
      go_enter Try.func25, Try.ntmps25
      go_wp2
      go_ret
      exact ⟨rfl, (Up.refl _).alloc _⟩
  · have E : ptb l m i = false := by unfold ptb; rw [decide_eq_false c0, Bool.false_and]
    rw [E]
    clear E
    have d0 : decide (0 ≤ i) = false := decide_eq_false c0
    go_enter Try.func25, Try.ntmps25
    go_wp2
    go_ret
    exact ⟨rfl, (Up.refl _).alloc _⟩
end Go.Proofs.Ytlocllcijncllaa
