/- Package bump: the document's Most; all told by functions; the example; Bumps compared; what is handed in, opened. -/
import Derived.Test.YtgcpkgogjcgfbaaBm4
import Derived.Lib.SmallJoins
namespace Go.Proofs.Ytgcpkgogjcgfbaa
open Go.Joins Go.ChangeShapes Go.WideShapes Go.ChangeAt Go.RowKit Go.Deep
set_option linter.unusedVariables false
set_option linter.unusedSimpArgs false

theorem brtake_any (s a l n : Int) (w : World) :
    Calls Try.prog 42 #[bv s a l, .int .i64 n] w fun e w' => e = .returned (.tuple #[bv s (tka s a l n) l, .int .u64 (tkw s a l n), .int .i64 (btke s a l n)]) ∧ Up w w' := by
  unfold tka tkw btke
  by_cases h : may s a l n
  · rw [if_pos h, if_pos h, if_pos h]; exact brtake_ok s a l n h w
  · rw [if_neg h, if_neg h, if_neg h]
    by_cases c : rgt s a l ∧ 1 ≤ n
    · rw [if_pos c]; exact rtake_full s a l n c.1 c.2 (by have := fun q => h ⟨c.1, c.2, q⟩; rcases Int.lt_or_le (l - a) n with q | q; exact q; exact absurd q this) w
    · rw [if_neg c]; exact rtake_arg s a l n c w

/-! ### What is taken at most, told by functions -/
/-- Are all taken? -/
def all_ (s a l n : Int) : Prop := rgt s a l ∧ l - a < n ∧ 1 ≤ l - a
instance decAll_ (s a l n : Int) : Decidable (all_ s a l n) := by unfold all_; infer_instance
def msa (s a l n : Int) : Int := if may s a l n then a + n else if all_ s a l n then a + (l - a) else a
def msw (s a l n : Int) : Int := if may s a l n then adr s a else if all_ s a l n then adr s a else 0
def msk (s a l n : Int) : Int := if may s a l n then n else if all_ s a l n then l - a else 0
/-- Are two the same? -/
def bsame (s a l s' a' l' : Int) : Bool := s == s' && (a == a' && l == l')
theorem bsame_self (s a l : Int) : bsame s a l s a l = true := by simp [bsame]
theorem eq_bump (s a l s' a' l' : Int) (w : World) : (binOp .eql 27 (bv s a l) (bv s' a' l')).run Try.prog w = .ok (.bool (bsame s a l s' a' l')) w := by
  rw [run_eql_struct, run_equalIn_agg _ _ _ _ _ (by rw [fieldsOf_of Try.underlying27]; exact Try.underlying27) (by kernel_rfl), fieldsOf_of Try.underlying27]
  simp [Op.eqFields, go_sem, bsame]
  by_cases h : s = s' <;> by_cases k : a = a' <;> by_cases j : l = l' <;> simp [h, k, j]
/-- One is the same as itself. -/
theorem eq_self (s a l : Int) (w : World) : (binOp .eql 27 (.agg #[.int .i64 s, .int .i64 a, .int .i64 l]) (.agg #[.int .i64 s, .int .i64 a, .int .i64 l])).run Try.prog w = .ok (.bool true) w := by
  rw [show Value.agg #[.int .i64 s, .int .i64 a, .int .i64 l] = bv s a l from rfl, eq_bump, bsame_self]

theorem cells_bump : Try.prog.cellsOf 27 = 3 := by kernel_rfl
section
variable {H : Type} {enc : TypeId × Value → H} {w : World} {base : Nat} {spare : Nat → Bool} {held : Bool}
set_option maxRecDepth 100000 in
theorem bump_open {r : Reach} {b0 : Nat} {v : Value} {d : DataW H} {p : List MemPlace} (hv : Value.okWide Try.prog w r b0 27 v) (h : DataW.Trod enc Try.prog w base spare held 27 v d p) :
    ∃ s a l : Int, v = bv s a l ∧ d = .agg [.lit (.int .i64 s), .lit (.int .i64 a), .lit (.int .i64 l)] ∧ p = [] ∧ (Lit.int .i64 s).wf = true ∧ (Lit.int .i64 a).wf = true ∧ (Lit.int .i64 l).wf = true := by
  obtain ⟨v0, v1, v2, y0, y1, y2, n, rfl, rfl, rfl, h0, h1, h2⟩ := open_agg3 Try.underlying27 (by kernel_rfl) cells_bump hv h
  obtain ⟨n0, e0, rfl, w0⟩ := DataW.trod_int Try.underlying3 h0
  obtain ⟨n1, e1, rfl, w1⟩ := DataW.trod_int Try.underlying3 h1
  obtain ⟨n2, e2, rfl, w2⟩ := DataW.trod_int Try.underlying3 h2
  cases e0; cases e1; cases e2
  exact ⟨n0, n1, n2, rfl, rfl, rfl, w0, w1, w2⟩
theorem shut_bump {s a l : Int} (w0 : (Lit.int .i64 s).wf = true) (w1 : (Lit.int .i64 a).wf = true) (w2 : (Lit.int .i64 l).wf = true) :
    DataW.Trod enc Try.prog w base spare held 27 (bv s a l) (.agg [.lit (.int .i64 s), .lit (.int .i64 a), .lit (.int .i64 l)]) [] :=
  shut_agg3 (y0 := (.lit (.int .i64 s), [])) (y1 := (.lit (.int .i64 a), [])) (y2 := (.lit (.int .i64 l), [])) Try.underlying27 (by kernel_rfl) cells_bump
    ⟨1, trod_int_mk 0 Try.underlying3 w0⟩ ⟨1, trod_int_mk 0 Try.underlying3 w1⟩ ⟨1, trod_int_mk 0 Try.underlying3 w2⟩
end
end Go.Proofs.Ytgcpkgogjcgfbaa
