/- The contracts of package num once more, with the answer told in whatever form a caller wants it. -/
import Derived.Test.YtiihhgpmkodjmaaPow
namespace Go.Proofs.Ytiihhgpmkodjmaa
open Go.ChangeShapes Go.WideShapes Go.ChangeAt Go.RowKit

theorem nn_of_wf {a : Int} (h : (Lit.int .u64 a).wf = true) : 0 ≤ a := by
  have e : IntKind.u64.min = 0 := by decide
  simp [Lit.wf, e] at h
  omega
theorem lo_of_wf {a : Int} (h : (Lit.int .i64 a).wf = true) : -9223372036854775808 ≤ a ∧ a ≤ 9223372036854775807 := by
  have e : IntKind.i64.min = -9223372036854775808 := by decide
  have e2 : IntKind.i64.max = 9223372036854775807 := by decide
  simp [Lit.wf, e, e2] at h
  omega
theorem hi_of_wf {a : Int} (h : (Lit.int .u64 a).wf = true) : a ≤ 18446744073709551615 := by
  have e : IntKind.u64.max = 18446744073709551615 := by decide
  simp [Lit.wf, e] at h
  omega

theorem add_as (a b v : Int) (h0 : 0 ≤ a) (h1 : 0 ≤ b) (hv : addw a b = v) (w : World) :
    Calls Try.prog 18 #[.int .u64 a, .int .u64 b] w fun e w' => e = .returned (.int .u64 v) ∧ Grown w w' := by
  rw [← hv]; exact add_any a b h0 h1 w
theorem mul_as (a b v : Int) (h0 : 0 ≤ a) (h1 : 0 ≤ b) (hv : mulw a b = v) (w : World) :
    Calls Try.prog 20 #[.int .u64 a, .int .u64 b] w fun e w' => e = .returned (.int .u64 v) ∧ Grown w w' := by
  rw [← hv]; exact mul_any a b h0 h1 w
theorem conj_as (a v : Int) (h0 : 0 ≤ a) (hv : cnj a = v) (w : World) :
    Calls Try.prog 22 #[.int .u64 a] w fun e w' => e = .returned (.int .u64 v) ∧ Grown w w' := by
  rw [← hv]; exact conj_any a h0 w
theorem norm_as (a v : Int) (h0 : 0 ≤ a) (hv : nrm a = v) (w : World) :
    Calls Try.prog 16 #[.int .u64 a] w fun e w' => e = .returned (.int .u64 v) ∧ Grown w w' := by
  rw [← hv]; exact norm_any a h0 w
theorem pow_as (a n v : Int) (h0 : 0 ≤ a) (hlo : -9223372036854775808 ≤ n) (hv : poww a (min n.toNat 64) = v) (w : World) :
    Calls Try.prog 24 #[.int .u64 a, .int .i64 n] w fun e w' => e = .returned (.int .u64 v) ∧ Grown w w' := by
  rw [← hv]; exact pow_all a n h0 hlo w
theorem parts_as (a x y : Int) (h0 : 0 ≤ a) (hx : re a = x) (hy : im a = y) (w : World) :
    Calls Try.prog 12 #[.int .u64 a] w fun e w' => e = .returned (.tuple #[.int .i64 x, .int .i64 y]) ∧ Grown w w' := by
  rw [← hx, ← hy]; exact parts_any a h0 w
theorem pack_as (x y v : Int) (hv : pk x y = v) (w : World) :
    Calls Try.prog 14 #[.int .i64 x, .int .i64 y] w fun e w' => e = .returned (.int .u64 v) ∧ w = w' := by
  rw [← hv]; exact pack_any x y w
end Go.Proofs.Ytiihhgpmkodjmaa
